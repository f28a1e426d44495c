"""Promise 13, and of 2 to 5 what they say of growing: plans that are grown by puts, and how a plan can be grown."""

import copy
import itertools
import random
import unittest

from edits import edited, inner_places, spots_of, stars_of, strokes_of
from samples import altered, web_plan
from samples import grown as grown_by_chance
from sketches import (BULGE, HANGING, LENS, OCTAGON, PINWHEEL, SPLIT, STAR, TEE, all_plans, bare as bare_sketch,
                      crossed_fan, deep, fan, junk, plan_of, sketch, wheel)
from threeexits.editing import cut, join, put, strike
from threeexits.errors import BadPlan, NoGrowth, NoSides, SameWall, StrokeError
from threeexits.growing import bare, grown, growth, is_growth
from threeexits.lots import can_build
from threeexits.places import alikes, many_places, mirrored, renamed, rooms
from threeexits.plans import Plan

TEE_GROWTH = ((0, ("in", 0, 1), ("in", 2, 3)), (1, ("in", 5, 4), ("in", 1, 2)))
# Three walls in a triangle, each of which ends on the next one.
WHIRL = sketch(3, [(0, 0), (12, 0), (0, 12), (3, 2), (6, 3), (3, 5), (1, 0), (10, 2), (0, 9)],
               [(0, 6, 1), (1, 7, 2), (2, 8, 0), (6, 3, 5), (7, 4, 3), (8, 5, 4)])


def in_a_row(plan):
    """Whether the fact's conditions hold, each wall tried behind the others."""
    if stars_of(plan):
        return False
    walls = list(enumerate(plan.walls))
    if any(number != other and {wall[0], wall[-1]} <= {*row} for number, wall in walls for other, row in walls):
        return False
    lies = {place: number for number, wall in walls for place in wall[1:-1]}
    row = list(range(plan.sides))
    while True:
        more = [number for number, wall in walls if number not in row
                and all(lies.get(end, 0) in row for end in (wall[0], wall[-1]))]
        if not more:
            return len(row) == len(walls)
        row += more


def grows(plan):
    """Whether the plan is bare, or one that grows leads to it by a put; all is tried."""
    if len(plan.walls) == plan.sides:
        return True
    for wall in range(plan.sides, len(plan.walls)):
        try:
            lesser = strike(plan, wall)
        except BadPlan:
            continue
        if leads_to(lesser, plan) and grows(lesser):
            return True
    return False


def leads_to(lesser, plan):
    """Whether any put leads from the one plan to the other."""
    for room, rim in enumerate(rooms(lesser)):
        for one, other in itertools.permutations(spots_of(rim), 2):
            new = len([spot for spot in (one, other) if spot[0] == "in"])
            if many_places(lesser) + new != many_places(plan) or strokes_of(lesser, one) & strokes_of(lesser, other):
                continue
            if alikes(put(lesser, room, one, other), plan):
                return True
    return False


def growth_by_chance(chance, sides, many, words=("at", "in")):
    """So many triples with spots of these words, or fewer, and the plan to which they lead."""
    plan = plan_of(bare_sketch(sides))
    triples = []
    for _ in range(5 * many):
        room = chance.randrange(len(rooms(plan)))
        spots = [spot for spot in spots_of(rooms(plan)[room]) if spot[0] in words]
        one, other = chance.choice(spots), chance.choice(spots)
        new = len([spot for spot in (one, other) if spot[0] == "in"])
        if len(triples) < many and many_places(plan) + new <= 40 and len(plan.walls) < 40:
            try:
                plan = put(plan, room, one, other)
                triples.append((room, one, other))
            except SameWall:
                pass
    return tuple(triples), plan


class Bare(unittest.TestCase):
    def test_each(self):
        for sides in range(3, 9):
            self.assertEqual(bare(sides), plan_of(bare_sketch(sides)))
            self.assertEqual(len(bare(sides).walls), sides)
            self.assertEqual(rooms(bare(sides)), (tuple(range(sides)),))
            self.assertIsNot(bare(sides), bare(sides))
        self.assertEqual(bare(3).walls, ((0, 1), (1, 2), (2, 0)))
        self.assertEqual(bare(4).rounds, ((1, 3), (0, 2), (1, 3), (0, 2)))

    def test_no_sides(self):
        for thing in junk() + [2, 9, 0, 1, -3, 10 ** 29, (3,), [3], "3", "bare", deep(list)]:
            self.assertRaises(NoSides, bare, thing)
            self.assertRaises(NoSides, grown, thing, ())
            self.assertRaises(NoSides, grown, thing, None)


class Grown(unittest.TestCase):
    def test_spelled_out(self):
        self.assertEqual(grown(4, TEE_GROWTH), plan_of(TEE))
        self.assertEqual(grown(4, TEE_GROWTH[:1]), plan_of(SPLIT))
        for sides in range(3, 9):
            self.assertEqual(grown(sides, ()), bare(sides))

    def test_puts_behind_each_other(self):
        chance = random.Random(1)
        for sides in range(3, 9):
            triples, plan = growth_by_chance(chance, sides, 40)
            self.assertEqual(grown(sides, triples), plan)
            self.assertTrue(len(triples) > 12)

    def test_a_triple_that_cannot_be_put(self):
        chance = random.Random(2)
        triples, plan = growth_by_chance(chance, 4, 9)
        self.assertEqual(len(triples), 9)
        many = len(rooms(plan))
        no_triples = [(many, ("at", 0), ("at", 2)), (-1, ("at", 0), ("at", 2)), (None, ("at", 0), ("at", 2)),
                      (0, ("at", 39), ("at", 0)), (0, ("at", rooms(plan)[0][0]), ("at", rooms(plan)[0][0])),
                      (0, ("at", 0)), (0,), (), (0, ("at", 0), ("at", 2), 0), [0, ("at", 0), ("at", 2)],
                      (0, ["at", 0], ("at", 2)), (True, ("at", 0), ("at", 2)), ("0", "at 0", "at 2"), "put", None, 7,
                      (0, ("at", 0), None), (0, None, None), ((0, ("at", 0), ("at", 2)),), {0: 1}, plan]
        for thing in no_triples + junk():
            for index in (0, 4, 8, 9):
                with self.assertRaises(NoGrowth) as caught:
                    grown(4, triples[:index] + (thing,) + triples[index:])
                self.assertEqual(caught.exception.index, index)

    def test_the_first_one_is_told(self):
        with self.assertRaises(NoGrowth) as caught:
            grown(4, (TEE_GROWTH[0], None, None, TEE_GROWTH[1]))
        self.assertEqual(caught.exception.index, 1)

    def test_no_tuple(self):
        for thing in junk() + [list(TEE_GROWTH), [], {}, "", 0, None, True]:
            if not isinstance(thing, tuple):
                with self.assertRaises(NoGrowth) as caught:
                    grown(4, thing)
                self.assertEqual(caught.exception.index, -1)

    def test_full(self):
        # Strokes from corner 0 to the wall across from it, as many as there can be.
        triples = ()
        plan = bare(3)
        for row in range(37):
            room = [number for number, rim in enumerate(rooms(plan)) if 2 in rim][0]
            triples += ((room, ("at", 0), ("in", row + 2 if row else 1, 2)),)
            plan = put(plan, *triples[-1])
        self.assertEqual((len(plan.walls), many_places(plan)), (40, 40))
        self.assertEqual(grown(3, triples), plan)
        self.assertTrue(alikes(plan, mirrored(plan_of(fan(37)))))
        room = [number for number, rim in enumerate(rooms(plan)) if 2 in rim][0]
        for more in [(room, ("at", 0), ("in", 39, 2)), (room, ("in", 0, 39), ("at", 2))]:
            with self.assertRaises(NoGrowth) as caught:
                grown(3, triples + (more,))
            self.assertEqual(caught.exception.index, 37)

    def test_long_tuples(self):
        with self.assertRaises(NoGrowth) as caught:
            grown(3, ((0, ("at", 0), ("in", 1, 2)),) * 20000)
        self.assertTrue(0 < caught.exception.index < 40)
        with self.assertRaises(NoGrowth) as caught:
            grown(3, (None,) * 99999)
        self.assertEqual(caught.exception.index, 0)


class Growth(unittest.TestCase):
    def assertGrows(self, plan):
        found = growth(plan)
        self.assertIs(type(found), tuple)
        self.assertEqual(len(found), len(plan.walls) - plan.sides)
        self.assertIs(is_growth(plan, found), True)
        self.assertTrue(alikes(grown(plan.sides, found), plan))
        self.assertTrue(can_build(plan))

    def test_spelled_out(self):
        self.assertEqual(growth(bare(5)), ())
        ways = [((0, 1), (2, 3)), ((1, 2), (3, 0)), ((2, 3), (0, 1)), ((3, 0), (1, 2))]
        self.assertIn(growth(plan_of(SPLIT)), [((0, ("in", *one), ("in", *other)),) for one, other in ways])
        for sketched in (SPLIT, TEE, OCTAGON, fan(5), crossed_fan(4)):
            self.assertGrows(plan_of(sketched))

    def test_none(self):
        for sketched in (STAR, PINWHEEL, LENS, HANGING, BULGE, WHIRL, wheel(3)):
            self.assertIs(growth(plan_of(sketched)), None)

    def test_each_reason_alone(self):
        # A star; a wall whose two ends stand in another one; walls that end on each other.
        star, bulge, whirl = plan_of(STAR), plan_of(BULGE), plan_of(WHIRL)
        self.assertEqual((stars_of(star), stars_of(bulge), stars_of(whirl)), ([3], [], []))
        self.assertTrue({bulge.walls[7][0], bulge.walls[7][-1]} <= {*bulge.walls[6]})
        self.assertTrue(can_build(star) and can_build(whirl))
        self.assertFalse(can_build(bulge))
        for plan in (star, bulge, whirl):
            self.assertIs(growth(plan), None)

    def test_by_the_fact(self):
        chance = random.Random(3)
        told = {True: 0, False: 0}
        plans = [plan for _, plan in all_plans()] + [plan_of(WHIRL), mirrored(plan_of(WHIRL))]
        plans += [web_plan(chance) for _ in range(60)]
        for many in range(60):
            plan = grown_by_chance(chance, 3 + many % 6, chance.randint(4, 16))[0]
            plans += [plan, altered(chance, plan, many % 3, many % 4)]
        for plan in plans:
            wanted = in_a_row(plan)
            told[wanted] += 1
            if wanted:
                self.assertGrows(plan)
            else:
                self.assertIs(growth(plan), None)
        self.assertTrue(told[True] > 60 and told[False] > 40)

    def test_by_all_ways(self):
        chance = random.Random(4)
        told = {True: 0, False: 0}
        plans = [plan for _, plan in all_plans() if len(plan.walls) - plan.sides < 6]
        plans += [web_plan(chance, 8) for _ in range(15)] + [plan_of(WHIRL)]
        for _ in range(25):
            plan = edited(chance, bare(chance.randint(3, 5)), 7)
            plans.append(plan if len(plan.walls) - plan.sides < 5 else bare(4))
        for plan in plans:
            wanted = grows(plan)
            told[wanted] += 1
            self.assertEqual(growth(plan) is not None, wanted)
            self.assertEqual(in_a_row(plan), wanted)
        self.assertTrue(told[True] > 15 and told[False] > 10)

    def test_behind_edits(self):
        chance = random.Random(5)
        for _ in range(12):
            plan = edited(chance, bare(chance.randint(3, 8)), 25, ("put",))
            self.assertGrows(plan)
            self.assertGrows(mirrored(plan))
            places = inner_places(plan)
            if places:
                place = chance.choice(places)
                found = cut(plan, place)
                # The place is a star now, until two walls are joined there.
                self.assertIs(growth(found), None)
                ending = [number for number, wall in enumerate(found.walls) if place in (wall[0], wall[-1])]
                for one, other in itertools.combinations(ending, 2):
                    if {*found.walls[one]} & {*found.walls[other]} == {place}:
                        again = join(found, place, one, other)
                        self.assertEqual(growth(again) is not None, in_a_row(again))

    def test_new_names(self):
        chance = random.Random(6)
        for _ in range(8):
            plan = grown_by_chance(chance, 5, 14)[0]
            inner = list(range(5, many_places(plan)))
            chance.shuffle(inner)
            other = renamed(plan, (2, 3, 4, 0, 1) + tuple(inner))
            self.assertGrows(other)
            self.assertTrue(is_growth(plan, growth(other)))
            self.assertTrue(is_growth(other, growth(plan)))

    def test_full_plans(self):
        for sketched in (fan(37), crossed_fan(35)):
            self.assertGrows(plan_of(sketched))
            self.assertGrows(mirrored(plan_of(sketched)))
        self.assertIs(growth(plan_of(wheel(34))), None)
        chance = random.Random(7)
        for sides in range(3, 9):
            plan = grown_by_chance(chance, sides, 40)[0]
            self.assertTrue(len(plan.walls) > 20)
            self.assertGrows(plan)

    def test_what_grew_has_no_narrow_lot(self):
        chance = random.Random(8)
        for sides in range(3, 9):
            triples, plan = growth_by_chance(chance, sides, 14)
            self.assertTrue(can_build(plan))
            self.assertTrue(is_growth(plan, triples))
            self.assertGrows(plan)


class IsGrowth(unittest.TestCase):
    def test_spelled_out(self):
        tee = plan_of(TEE)
        self.assertIs(is_growth(tee, TEE_GROWTH), True)
        self.assertIs(is_growth(tee, list(TEE_GROWTH)), False)
        self.assertIs(is_growth(tee, TEE_GROWTH[:1]), False)
        self.assertIs(is_growth(tee, TEE_GROWTH + (None,)), False)
        self.assertIs(is_growth(tee, ()), False)
        self.assertIs(is_growth(bare(4), ()), True)
        self.assertIs(is_growth(bare(4), []), False)
        self.assertIs(is_growth(plan_of(SPLIT), TEE_GROWTH), False)
        self.assertIs(is_growth(plan_of(SPLIT), TEE_GROWTH[:1]), True)

    def test_other_ways_and_other_corners(self):
        chance = random.Random(9)
        tee = plan_of(TEE)
        told = {True: 0, False: 0}
        for _ in range(500):
            triples, plan = growth_by_chance(chance, 4, 2, ("in",))
            wanted = alikes(plan, tee) != ()
            self.assertIs(is_growth(tee, triples), wanted)
            told[wanted] += 1
        self.assertTrue(min(told.values()) > 5, told)

    def test_mirrored_plans(self):
        # A stroke from corner 0 and one that ends on it from the right: its mirror image has it from the left.
        triples = ((0, ("at", 0), ("in", 1, 2)), (0, ("in", 0, 3), ("in", 3, 1)))
        plan = [grown(3, (triples[0], (room, *spots))) for room in range(2)
                for spots in [(("in", 3, 0), ("at", 1)), (("in", 0, 3), ("at", 2))]
                if can_grow(3, (triples[0], (room, *spots)))][0]
        self.assertFalse(alikes(plan, mirrored(plan)))
        self.assertTrue(is_growth(plan, growth(plan)))
        self.assertFalse(is_growth(mirrored(plan), growth(plan)))

    def test_what_is_none(self):
        for plan in (plan_of(TEE), plan_of(STAR), bare(3)):
            for thing in junk() + [None, [], TEE_GROWTH[::-1], (TEE_GROWTH,), ((),), deep(tuple), deep(list)]:
                self.assertIs(is_growth(plan, thing), False)

    def test_of_plans_without_one(self):
        for sketched in (STAR, PINWHEEL, LENS, HANGING, BULGE, wheel(3)):
            plan = plan_of(sketched)
            for other in all_plans():
                if other[1].sides == plan.sides:
                    self.assertIs(is_growth(plan, growth(other[1])), False)


def can_grow(sides, triples):
    try:
        return isinstance(grown(sides, triples), Plan)
    except NoGrowth:
        return False


class Handed(unittest.TestCase):
    def test_arguments_stay_as_they_were(self):
        plan = plan_of(TEE)
        for thing in junk() + [[[0, ("at", 0), {1: [2]}]]]:
            kept = copy.deepcopy(thing) if not isinstance(thing, StrokeError) else thing
            self.assertFalse(is_growth(plan, thing))
            self.assertRaises(NoGrowth, grown, 4, thing)
            self.assertRaises(NoGrowth, grown, 4, (thing,))
            self.assertRaises(NoSides, grown, thing, thing)
            self.assertEqual(thing, kept)
        for _, plan in all_plans():
            kept = Plan(plan.sides, plan.walls, plan.rounds)
            growth(plan)
            self.assertEqual(plan, kept)

    def test_equal_calls(self):
        for name, plan in all_plans():
            self.assertEqual(growth(plan), growth(Plan(plan.sides, plan.walls, plan.rounds)), name)


if __name__ == "__main__":
    unittest.main()
