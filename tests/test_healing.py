"""Promise 14, and of 2 to 5 what they say of healing: cuts at several places, and cuts that leave no lot narrow."""

import copy
import itertools
import random
import unittest

from edits import cut_by_hand, inner_places
from samples import altered, grown, web_plan
from sketches import (BIGON, BULGE, CROSSED_RING, HANGING, HANGING_STRAIGHT, LENS, OCTAGON, PINWHEEL, SPLIT, STAR, TEE,
                      TWICE, TWO_HANGING, all_plans, bare, crossed_fan, deep, fan, junk, plan_of, wheel)
from threeexits.editing import cut, join, put
from threeexits.errors import Full, NoPlaces, StrokeError, TooMany
from threeexits.healing import after_cuts, fewest_cuts, heals
from threeexits.lots import all_narrow, can_build, narrow
from threeexits.places import lies_on, many_places, mirrored, renamed, rooms
from threeexits.plans import Plan


def subsets(places):
    """All ascending tuples of some of the places, the shorter ones first."""
    return [row for many in range(len(places) + 1) for row in itertools.combinations(places, many)]


def room_with(plan, *places):
    """The number of the only room whose rim comes to all of these places."""
    found = [number for number, rim in enumerate(rooms(plan)) if {*places} <= {*rim}]
    assert len(found) == 1
    return found[0]


def comb(many, more=0):
    """A square parted by wall 4 or so, on which so many strokes from corner 1 end; more strokes lie on the left."""
    plan = plan_of(SPLIT)
    last = 4
    for _ in range(many):
        plan = put(plan, room_with(plan, 1, 2, 5), ("at", 1), ("in", 5, last))
        last = many_places(plan) - 1
    last = 4
    for _ in range(more):
        plan = put(plan, room_with(plan, 0, 3), ("at", 3), ("in", 0, last))
        last = many_places(plan) - 1
    return plan


def with_lens(plan, one, other, far):
    """The plan with two strokes that have the same two ends, in the room on the left; and the place that heals it."""
    low = many_places(plan)
    plan = put(plan, room_with(plan, 0, 3), ("in", 0, one), ("in", other, 3))
    high, middle = low + 1, low + 2
    plan = put(plan, room_with(plan, low, far, high), ("at", low), ("at", far))
    room = room_with(plan, low, far, high)
    rim = rooms(plan)[room]
    step = [step for step in zip(rim, rim[1:] + rim[:1]) if {*step} == {low, far}][0]
    plan = cut(put(plan, room, ("at", high), ("in", *step)), middle)
    ends = [plan.walls.index((end, middle)) for end in (low, high)]
    return join(plan, middle, *ends), middle


def lens_comb(many):
    """A comb with two pairs of strokes that have the same two ends, and the places that heal it."""
    plan, one = with_lens(comb(many), 4, 5, 5)
    first, second = [place for place in range(many_places(plan)) if place in (one - 2, one - 1)]
    plan, other = with_lens(plan, first, second, second)
    return plan, (one, other)


def no_cuts(plan):
    """What is no ascending tuple of places of CROSSED_RING or TEE that can be cut."""
    good = inner_places(plan)
    one = good[0]
    return [thing for thing in junk() if thing not in [tuple(row) for row in subsets(good)]] + [
        (0,), (many_places(plan),), (-1,), (one, one), [one], [], {one: True}, one, str(one), None, (None,), (True,),
        (one, many_places(plan)), (-1, one), (0, one), (one, 10 ** 29), ((one,),), ([one],), (str(one),), "", {}, False]


class AfterCuts(unittest.TestCase):
    def test_spelled_out(self):
        tee = plan_of(TEE)
        self.assertEqual(after_cuts(tee, (6,)).walls, tee.walls[:4] + ((4, 6), (5, 6), (6, 7)))
        self.assertEqual(after_cuts(tee, ()), tee)
        pinwheel = plan_of(PINWHEEL)
        self.assertEqual(inner_places(pinwheel), [4, 5, 6, 7])
        found = after_cuts(pinwheel, (4, 7))
        self.assertEqual(found.walls[4:], ((4, 5), (4, 7), (4, 8), (6, 5, 9), (7, 6, 10), (7, 11)))
        self.assertEqual(found, cut(cut(pinwheel, 4), 7))

    def test_several_on_one_stroke(self):
        plan = comb(3)
        self.assertEqual(inner_places(plan), [6, 7, 8])
        self.assertEqual(plan.walls[-1], (4, 6, 7, 8, 5))
        self.assertEqual(after_cuts(plan, (6, 8)).walls[4:], ((1, 6), (1, 7), (1, 8), (4, 6), (5, 8), (6, 7, 8)))
        self.assertEqual(after_cuts(plan, (6, 7, 8)).walls[4:],
                         ((1, 6), (1, 7), (1, 8), (4, 6), (5, 8), (6, 7), (7, 8)))

    def test_cuts_one_behind_the_other(self):
        chance = random.Random(1)
        plans = [plan for _, plan in all_plans() if len(plan.walls) < 20]
        plans += [grown(chance, 3 + many % 6, 15)[0] for many in range(10)] + [web_plan(chance) for _ in range(10)]
        for plan in plans:
            places = inner_places(plan)
            for row in [(), tuple(places), tuple(places[1:]), tuple(places[::2])]:
                found = plan
                for place in row:
                    found = cut(found, place)
                self.assertEqual(after_cuts(plan, row), found)
                self.assertEqual(found, cut_by_hand(plan, row))
                self.assertEqual(found.rounds, plan.rounds)
                self.assertEqual(len(found.walls), len(plan.walls) + len(row))
                self.assertEqual(inner_places(found), [place for place in places if place not in row])

    def test_no_places(self):
        for plan in (plan_of(TEE), plan_of(CROSSED_RING), comb(2)):
            for thing in no_cuts(plan):
                self.assertRaises(NoPlaces, after_cuts, plan, thing)

    def test_what_cannot_be_cut(self):
        # Corners, places on the frame's walls, stars.
        for place in (0, 4, 5, 7):
            self.assertRaises(NoPlaces, after_cuts, plan_of(TEE), (place,))
            self.assertRaises(NoPlaces, after_cuts, plan_of(TEE), tuple(sorted((place, 6))))
        self.assertRaises(NoPlaces, after_cuts, plan_of(STAR), (3,))
        self.assertRaises(NoPlaces, after_cuts, plan_of(CROSSED_RING), (3, 4))
        self.assertRaises(NoPlaces, after_cuts, comb(3), (7, 6))
        self.assertRaises(NoPlaces, after_cuts, comb(3), (6, 7, 7))
        self.assertRaises(NoPlaces, after_cuts, cut(comb(3), 6), (6,))

    def test_full(self):
        plan = plan_of(crossed_fan(35))
        self.assertEqual((len(plan.walls), inner_places(plan)), (39, [38, 39]))
        self.assertEqual(len(after_cuts(plan, (38,)).walls), 40)
        self.assertEqual(len(after_cuts(plan, (39,)).walls), 40)
        self.assertRaises(Full, after_cuts, plan, (38, 39))
        self.assertRaises(NoPlaces, after_cuts, plan, (38, 39, 40))
        self.assertRaises(NoPlaces, after_cuts, plan, (39, 38))
        full = plan_of(fan(37))
        self.assertEqual(after_cuts(full, ()), full)
        self.assertRaises(NoPlaces, after_cuts, full, (3,))
        for many in range(13, 16):
            plan = comb(many, 8)
            places = tuple(inner_places(plan))
            if len(plan.walls) + len(places) <= 40:
                self.assertEqual(len(after_cuts(plan, places).walls), len(plan.walls) + len(places))
            else:
                self.assertRaises(Full, after_cuts, plan, places)
                self.assertEqual(len(after_cuts(plan, places[:40 - len(plan.walls)]).walls), 40)


class Heals(unittest.TestCase):
    def test_spelled_out(self):
        lens = plan_of(LENS)
        self.assertEqual(inner_places(lens), [5])
        self.assertIs(heals(lens, ()), False)
        self.assertIs(heals(lens, (5,)), True)
        self.assertIs(heals(lens, [5]), False)
        self.assertIs(heals(lens, (4,)), False)
        self.assertIs(heals(lens, (5, 5)), False)
        tee = plan_of(TEE)
        self.assertIs(heals(tee, ()), True)
        self.assertIs(heals(tee, (6,)), True)
        self.assertIs(heals(tee, (7,)), False)

    def test_what_is_none(self):
        for plan in (plan_of(TEE), plan_of(CROSSED_RING), comb(2)):
            self.assertTrue(can_build(plan))
            for thing in no_cuts(plan):
                self.assertIs(heals(plan, thing), False)

    def test_by_the_definition(self):
        chance = random.Random(2)
        told = {True: 0, False: 0}
        plans = [plan for _, plan in all_plans() if len(inner_places(plan)) < 6]
        plans += [web_plan(chance, 12) for _ in range(25)]
        for plan in plans:
            places = inner_places(plan)
            if len(places) > 5 or len(plan.walls) + len(places) > 40:
                continue
            for row in subsets(places):
                wanted = can_build(cut_by_hand(plan, row))
                self.assertIs(heals(plan, row), wanted)
                told[wanted] += 1
                if len(plan.walls) + len(row) <= 12:
                    self.assertEqual(all_narrow(after_cuts(plan, row)) == [], wanted)
        self.assertTrue(min(told.values()) > 50, told)

    def test_no_more_than_forty(self):
        plan = plan_of(crossed_fan(35))
        self.assertEqual([heals(plan, row) for row in subsets([38, 39])], [True, True, True, False])
        plan = comb(15, 8)
        places = tuple(inner_places(plan))
        self.assertEqual(len(plan.walls), 28)
        self.assertIs(heals(plan, places[:12]), True)
        self.assertIs(heals(plan, places[:13]), False)
        self.assertIs(heals(plan, places), False)


class FewestCuts(unittest.TestCase):
    def assertFewest(self, plan):
        """Holds what is told against all sets of places; tells how many there are."""
        places = inner_places(plan)
        healing = [row for row in subsets(places) if can_build(cut_by_hand(plan, row))]
        found = fewest_cuts(plan)
        if not healing:
            self.assertIs(found, None)
            return None
        self.assertIn(found, healing)
        self.assertIs(type(found), tuple)
        self.assertEqual(len(found), len(healing[0]))
        self.assertIs(heals(plan, found), True)
        return len(found)

    def test_spelled_out(self):
        for sketched in (bare(5), SPLIT, TEE, STAR, PINWHEEL, OCTAGON, wheel(34), fan(37)):
            self.assertEqual(fewest_cuts(plan_of(sketched)), ())
        self.assertEqual(fewest_cuts(plan_of(LENS)), (5,))
        self.assertEqual(fewest_cuts(plan_of(TWICE)), (6,))
        self.assertEqual(fewest_cuts(plan_of(BULGE)), (8,))
        for sketched in (HANGING, HANGING_STRAIGHT, TWO_HANGING, BIGON):
            self.assertIs(fewest_cuts(plan_of(sketched)), None)
        self.assertEqual(fewest_cuts(mirrored(plan_of(LENS))), (5,))

    def test_all_sets_of_places(self):
        chance = random.Random(3)
        sizes = []
        for many in range(50):
            plan = web_plan(chance, 14, range(2, 8))
            if len(inner_places(plan)) < 6:
                sizes.append(self.assertFewest(plan))
                sizes.append(self.assertFewest(altered(chance, plan, many % 2, many % 3)))
        self.assertTrue({None, 0, 1, 2, 3, 4} <= {*sizes}, sizes)

    def test_larger_plans(self):
        chance = random.Random(4)
        sizes = []
        while len(sizes) < 4:
            plan = web_plan(chance, 24, range(8, 12))
            if len(inner_places(plan)) in (7, 8):
                sizes.append(self.assertFewest(plan))
        self.assertTrue(max(size or 0 for size in sizes) > 2, sizes)

    def test_new_names(self):
        chance = random.Random(5)
        for _ in range(6):
            plan = web_plan(chance, 14, range(4, 8))
            inner = list(range(plan.sides, many_places(plan)))
            chance.shuffle(inner)
            other = renamed(plan, tuple(range(plan.sides)) + tuple(inner))
            one, two = fewest_cuts(plan), fewest_cuts(other)
            self.assertEqual(one is None, two is None)
            if one is not None:
                self.assertEqual(len(one), len(two))
                self.assertTrue(heals(other, two))

    def test_several(self):
        plan, places = lens_comb(3)
        self.assertFalse(can_build(plan))
        self.assertEqual(len(inner_places(plan)), 5)
        self.assertEqual([row for row in subsets(inner_places(plan)) if heals(plan, row)][0], places)
        self.assertEqual(fewest_cuts(plan), places)

    def test_fourteen_and_fifteen_places(self):
        self.assertEqual(len(inner_places(comb(14))), 14)
        self.assertEqual(fewest_cuts(comb(14)), ())
        self.assertTooMany(comb(15))
        plan, places = lens_comb(12)
        self.assertEqual((len(inner_places(plan)), narrow(plan) is None), (14, False))
        self.assertEqual(fewest_cuts(plan), places)
        plan, places = lens_comb(13)
        self.assertEqual(len(inner_places(plan)), 15)
        self.assertTrue(heals(plan, places))
        self.assertTooMany(plan)

    def test_forty_strokes_and_one_more(self):
        plan = comb(14, 7)
        self.assertEqual(len(plan.walls) + len(inner_places(plan)), 40)
        self.assertEqual(fewest_cuts(plan), ())
        self.assertTooMany(comb(14, 8))
        self.assertTooMany(comb(13, 10))
        self.assertEqual(fewest_cuts(comb(13, 9)), ())
        self.assertTooMany(plan_of(crossed_fan(35)))
        self.assertEqual(fewest_cuts(plan_of(crossed_fan(34))), ())
        self.assertEqual(fewest_cuts(plan_of(fan(37))), ())

    def assertTooMany(self, plan):
        with self.assertRaises(TooMany) as caught:
            fewest_cuts(plan)
        self.assertEqual(caught.exception.most, 14)


class Facts(unittest.TestCase):
    def test_cuts_make_no_lot_narrow(self):
        chance = random.Random(6)
        for many in range(12):
            plan = grown(chance, 3 + many % 6, 16)[0]
            places = inner_places(plan)
            for _ in range(4):
                row = tuple(place for place in places if chance.random() < 0.5)
                self.assertIs(heals(plan, row), True)
                self.assertTrue(can_build(after_cuts(plan, row)))

    def test_more_cuts_heal_too(self):
        chance = random.Random(7)
        done = 0
        while done < 12:
            plan = web_plan(chance, 14, range(3, 7))
            places = inner_places(plan)
            if 1 < len(places) < 6 and fewest_cuts(plan):
                healing = [row for row in subsets(places) if heals(plan, row)]
                for row in healing:
                    for place in places:
                        self.assertIn(tuple(sorted({*row, place})), healing)
                done += 1

    def test_each_narrow_lot_is_cut(self):
        chance = random.Random(8)
        done = 0
        while done < 12:
            plan = web_plan(chance, 11, range(3, 7))
            places = inner_places(plan)
            if 0 < len(places) < 6 and not can_build(plan):
                for lot in all_narrow(plan):
                    lying = {place for place in places if lies_on(plan, place) in lot}
                    self.assertTrue(all(lying & {*row} for row in subsets(places) if heals(plan, row)))
                done += 1


class Handed(unittest.TestCase):
    def test_arguments_stay_as_they_were(self):
        plan = plan_of(CROSSED_RING)
        for thing in no_cuts(plan) + [deep(list), deep(tuple), deep(dict)]:
            kept = copy.deepcopy(thing) if not isinstance(thing, StrokeError) else thing
            self.assertFalse(heals(plan, thing))
            self.assertRaises(NoPlaces, after_cuts, plan, thing)
            self.assertEqual(thing, kept)
        self.assertEqual(plan, plan_of(CROSSED_RING))

    def test_equal_calls(self):
        chance = random.Random(9)
        for _ in range(8):
            plan = web_plan(chance, 14, range(3, 7))
            again = Plan(plan.sides, plan.walls, plan.rounds)
            self.assertEqual(fewest_cuts(plan), fewest_cuts(again))
            self.assertEqual(plan, again)


if __name__ == "__main__":
    unittest.main()
