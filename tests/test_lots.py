"""Promise 8, and of 2 to 5 what they say of lots: lots, their exits, and the narrow ones."""

import copy
import itertools
import random
import unittest

from samples import altered, grown, web_plan
from sketches import (BIGON, BOWL, CROSSED_RING, HANGING, HANGING_IN_A_FAN, HANGING_WITHIN, LENS, OCTAGON, RING,
                      SKETCHES, SPLIT, STAR, TEE, TWO_HANGING, all_plans, bare, crossed_fan, fan, junk, plan_of, wheel)
from threeexits.errors import NoLot, NoWalls, StrokeError, TooMany
from threeexits.lots import all_lots, all_narrow, can_build, closed, exits, is_lot, is_narrow, narrow
from threeexits.places import many_places, renamed


def neighbours(plan, walls):
    """For each wall of some the other ones of them with a place in common."""
    return {one: [other for other in walls if set(plan.walls[one]) & set(plan.walls[other])] for one in walls}


def reached(nears, first):
    found, todo = {first}, [first]
    while todo:
        for near in nears[todo.pop()]:
            if near not in found:
                found.add(near)
                todo.append(near)
    return found


def rims(plan):
    """A dict from steps along ties to the number of the rim to the left; and that of the rim from without."""
    ahead = {(near, place): (place, ring[at - 1]) for place, ring in enumerate(plan.rounds)
             for at, near in enumerate(ring)}
    found = {}
    for step in ahead:
        number = len(found)
        while step not in found:
            found[step] = number
            step = ahead[step]
    return found, found[plan.walls[0][1], plan.walls[0][0]]


def within(plan, walls):
    """The walls that lie within some, found on its own for the tests."""
    beside, without = rims(plan)
    nears = {number: [] for number in beside.values()}
    ties = [(number, tie) for number, wall in enumerate(plan.walls) for tie in zip(wall, wall[1:])]
    for number, (one, other) in ties:
        if number not in walls:
            nears[beside[one, other]].append(beside[other, one])
            nears[beside[other, one]].append(beside[one, other])
    free = reached(nears, without)
    return {number for number, (one, other) in ties if number not in walls
            and beside[one, other] not in free and beside[other, one] not in free}


def together(plan, walls):
    return len(reached(neighbours(plan, walls), walls[0])) == len(walls)


def subsets(plan):
    """All ascending tuples of one number of walls or more."""
    numbers = range(len(plan.walls))
    return sorted(row for many in numbers for row in itertools.combinations(numbers, many + 1))


def lots_of(plan):
    return [walls for walls in subsets(plan) if together(plan, walls) and not within(plan, walls)]


def exits_of(plan, lot):
    found = []
    for place in range(len(plan.rounds)):
        standing = [number for number, wall in enumerate(plan.walls) if place in wall]
        lying = [number for number, wall in enumerate(plan.walls) if place in wall[1:-1]]
        if set(standing) & set(lot) and not set(lying) & set(lot):
            if place < plan.sides or set(standing) - set(lot):
                found.append(place)
    return tuple(found)


def narrow_of(plan, lots):
    """Those of all lots that are narrow."""
    return [lot for lot in lots if len(lot) > 1 and len(exits_of(plan, lot)) < 3]


def small_plans(many=80, most=8):
    chance = random.Random(8)
    few = [plan for _, plan in all_plans() if len(plan.walls) <= most]
    return few + [web_plan(chance, most) for _ in range(many)]


SMALL = [(plan, lots_of(plan)) for plan in small_plans()]


def no_walls(plan):
    """What is no tuple of walls of TEE that hang together."""
    good = [(0,), (0, 1, 2, 3, 4, 5)]
    many = len(plan.walls)
    return [thing for thing in junk() if thing not in good] + [
        (), [0], [0, 1], (many,), (0, many), (-1,), (-1, 0), (-1, 1), (-1, 4), (-2, 0), (-6, 0), (1, 0), (0, 0),
        (0, 1, 1), (1, 0, 4), (0, 3, 1),
        (0, 2), (1, 3), (4, 1), (0, 5), (3, 5), (0, 2, 5), (False,), (True,), (0, True), (False, 1), ("0",), ((0,),),
        ([0],), (None,), 0, "01", {0: 1}, (0, 1, 10 ** 29), (0, 10 ** 29), (10 ** 29,), (0, 1, None)]


class Lots(unittest.TestCase):
    def test_spelled_out(self):
        tee = plan_of(TEE)
        for lot in [(0,), (5,), (0, 1), (0, 3), (0, 4), (4, 5), (1, 5), (0, 2, 3, 4), (0, 1, 2, 4, 5), tuple(range(6))]:
            self.assertIs(is_lot(tee, lot), True, lot)
        # Walls 4 and 5 lie within the frame, wall 5 within the right part of it.
        for walls in [(0, 1, 2, 3), (0, 1, 2, 4), (0, 1, 2, 3, 4), (0, 1, 2, 3, 5)]:
            self.assertIs(is_lot(tee, walls), False, walls)

    def test_what_is_none(self):
        tee = plan_of(TEE)
        for thing in no_walls(tee):
            self.assertIs(is_lot(tee, thing), False)

    def test_frame_alone(self):
        for sides in range(3, 9):
            plan = plan_of(bare(sides))
            self.assertTrue(is_lot(plan, tuple(range(sides))))
            self.assertTrue(is_lot(plan, (0,)))
            self.assertEqual(is_lot(plan, (0, 2)), sides == 3)

    def test_rings(self):
        ring = plan_of(RING)
        self.assertFalse(is_lot(ring, (6, 7, 9)))
        self.assertTrue(is_lot(ring, (6, 7)))
        self.assertTrue(is_lot(ring, (6, 7, 8, 9, 10, 11)))
        crossed = plan_of(CROSSED_RING)
        self.assertFalse(is_lot(crossed, (6, 7, 8)))
        self.assertFalse(is_lot(crossed, (6, 7, 8, 9, 10)))
        self.assertTrue(is_lot(crossed, (3, 6, 7, 8, 9, 10)))

    def test_by_the_definition(self):
        for plan, lots in SMALL:
            self.assertEqual([walls for walls in subsets(plan) if is_lot(plan, walls)], lots)
            self.assertEqual(all_lots(plan), lots)


class Closed(unittest.TestCase):
    def test_spelled_out(self):
        tee = plan_of(TEE)
        self.assertEqual(closed(tee, (0, 1, 2, 3)), (0, 1, 2, 3, 4, 5))
        self.assertEqual(closed(tee, (0, 1, 2, 4)), (0, 1, 2, 4, 5))
        self.assertEqual(closed(tee, (0, 2, 3, 4)), (0, 2, 3, 4))
        self.assertEqual(closed(tee, (5,)), (5,))
        self.assertEqual(closed(tee, (4, 5)), (4, 5))

    def test_walls_within_a_ring(self):
        self.assertEqual(closed(plan_of(RING), (6, 7, 9)), (6, 7, 8, 9, 10, 11))
        self.assertEqual(closed(plan_of(RING), (3, 6, 7, 9)), (3, 6, 7, 8, 9, 10, 11))
        # What comes in from corner 0 has just one of its ties within.
        self.assertEqual(closed(plan_of(CROSSED_RING), (6, 7, 8)), (3, 6, 7, 8, 9, 10))

    def test_what_is_added_shuts_off_more(self):
        # From within the ring a wall leads out to corner 0; with the frame's walls it shuts off all.
        crossed = plan_of(CROSSED_RING)
        self.assertEqual(closed(crossed, (0, 4, 6, 7, 8)), (0, 3, 4, 6, 7, 8, 9, 10))
        self.assertEqual(closed(crossed, (0, 1, 2)), tuple(range(11)))

    def test_what_hangs_in_a_room(self):
        hanging = plan_of(HANGING)
        self.assertEqual(closed(hanging, (0, 1, 2)), tuple(range(10)))
        self.assertEqual(closed(hanging, (4, 5, 7)), (4, 5, 6, 7, 8, 9))
        self.assertEqual(closed(hanging, (3, 4)), (3, 4))

    def test_frame_alone(self):
        for name, plan in all_plans():
            self.assertEqual(closed(plan, tuple(range(plan.sides))), tuple(range(len(plan.walls))), name)

    def test_least_of_all_lots(self):
        for plan, found in SMALL[::2]:
            lots = [set(lot) for lot in found]
            for walls in subsets(plan):
                if together(plan, walls):
                    least = set.intersection(*[lot for lot in lots if set(walls) <= lot])
                    self.assertEqual(closed(plan, walls), tuple(sorted(least)))
                else:
                    self.assertRaises(NoWalls, closed, plan, walls)

    def test_no_walls(self):
        tee = plan_of(TEE)
        for thing in no_walls(tee):
            self.assertRaises(NoWalls, closed, tee, thing)


class Exits(unittest.TestCase):
    def test_one_wall(self):
        for name, plan in all_plans():
            for number, wall in enumerate(plan.walls):
                self.assertEqual(exits(plan, (number,)), tuple(sorted((wall[0], wall[-1]))), name)

    def test_corners(self):
        for name, plan in all_plans():
            self.assertEqual(exits(plan, tuple(range(len(plan.walls)))), tuple(range(plan.sides)), name)
        octagon = plan_of(OCTAGON)
        self.assertEqual(exits(octagon, (0, 1)), (0, 1, 2))
        self.assertEqual(exits(octagon, (8,)), (0, 4))

    def test_where_walls_of_the_lot_end_on_others(self):
        tee = plan_of(TEE)
        self.assertEqual(exits(tee, (4, 5)), (4, 5, 7))
        self.assertEqual(exits(tee, (0, 4)), (0, 1, 5))
        self.assertEqual(exits(tee, (0, 1, 4)), (0, 1, 2, 5))

    def test_where_the_lot_ends_on_other_walls(self):
        tee = plan_of(TEE)
        self.assertEqual(exits(tee, (1, 5)), (1, 2, 6))
        self.assertEqual(exits(tee, (5,)), (6, 7))

    def test_stars(self):
        star = plan_of(STAR)
        self.assertEqual(exits(star, (3, 4)), (0, 1, 3))
        self.assertEqual(exits(star, (3, 4, 5)), (0, 1, 2))
        self.assertEqual(exits(plan_of(RING), (6, 7, 8, 9, 10, 11)), (3, 4, 5))
        self.assertEqual(exits(plan_of(CROSSED_RING), (3, 6, 7, 8, 9, 10)), (0, 4, 5))

    def test_by_the_definition(self):
        for plan, lots in SMALL:
            for lot in lots:
                self.assertEqual(exits(plan, lot), exits_of(plan, lot))

    def test_no_lot(self):
        tee = plan_of(TEE)
        for thing in no_walls(tee) + [(0, 1, 2, 3), (0, 1, 2, 4), (0, 1, 2, 3, 5)]:
            self.assertRaises(NoLot, exits, tee, thing)
        self.assertRaises(NoLot, exits, plan_of(RING), (6, 7, 9))


class NarrowLots(unittest.TestCase):
    def test_bare(self):
        for sides in range(3, 9):
            plan = plan_of(bare(sides))
            self.assertIs(can_build(plan), True)
            self.assertIs(narrow(plan), None)
            self.assertEqual(all_narrow(plan), [])

    def test_in_one_lot(self):
        lens, bigon = plan_of(LENS), plan_of(BIGON)
        self.assertEqual(all_narrow(lens), [(4, 5)])
        self.assertEqual(narrow(lens), (4, 5))
        self.assertEqual(all_narrow(bigon), [(3, 4, 5, 6, 7)])
        self.assertEqual(narrow(bigon), (3, 4, 5, 6, 7))
        self.assertIs(can_build(lens), False)
        self.assertIs(can_build(bigon), False)

    def test_one_exit(self):
        # Something hangs from a wall that doesn't reach a corner; it has lower numbers than that wall.
        plan = plan_of(HANGING_WITHIN)
        self.assertEqual(exits(plan, tuple(range(3, 6)) + tuple(range(7, 10))), (3,))
        self.assertTrue(is_narrow(plan, narrow(plan)))
        self.assertEqual(all_narrow(plan), narrow_of(plan, lots_of(plan)))

    def test_other_names(self):
        for name, plan in all_plans():
            if len(plan.walls) < 18:
                sides, many = plan.sides, many_places(plan)
                for by in range(many - sides):
                    others = list(range(sides + by, many)) + list(range(sides, sides + by))
                    for names in (others, others[::-1]):
                        other = renamed(plan, tuple(range(1, sides)) + (0,) + tuple(names))
                        lot = narrow(other)
                        self.assertEqual(lot is None, can_build(plan), name)
                        if lot is not None:
                            self.assertTrue(is_narrow(other, lot))

    def test_in_several(self):
        hanging = plan_of(HANGING)
        self.assertEqual(all_narrow(hanging), [
            (0, 3, 4, 5, 6, 7, 8, 9), (2, 3, 4, 5, 6, 7, 8, 9), (3, 4, 5, 6, 7, 8, 9), (4, 5, 6, 7, 8, 9),
            (4, 6, 7, 8, 9), (5, 6, 7, 8, 9)])
        self.assertIn(narrow(hanging), all_narrow(hanging))

    def test_not_at_all(self):
        for sketched in (SPLIT, TEE, STAR, RING, CROSSED_RING, BOWL):
            plan = plan_of(sketched)
            self.assertIs(can_build(plan), True)
            self.assertIs(narrow(plan), None)
            self.assertEqual(all_narrow(plan), [])

    def test_is_narrow(self):
        lens = plan_of(LENS)
        self.assertEqual([walls for walls in subsets(lens) if is_narrow(lens, walls)], [(4, 5)])
        self.assertIs(is_narrow(lens, (4, 5)), True)
        self.assertIs(is_narrow(lens, (4,)), False)
        self.assertIs(is_narrow(lens, (5, 4)), False)
        self.assertIs(is_narrow(lens, [4, 5]), False)
        # Two exits and fewer, but no lot.
        self.assertIs(is_narrow(plan_of(BIGON), (3, 4, 6, 7)), False)
        self.assertIs(is_narrow(plan_of(HANGING), (4, 5, 7)), False)

    def test_what_is_none(self):
        for sketched in (TEE, LENS):
            plan = plan_of(sketched)
            for thing in no_walls(plan):
                self.assertIs(is_narrow(plan, thing), False)

    def test_by_the_definition(self):
        built = 0
        for plan, lots in SMALL:
            wanted = narrow_of(plan, lots)
            self.assertEqual(all_narrow(plan), wanted)
            self.assertEqual([walls for walls in subsets(plan) if is_narrow(plan, walls)], wanted)
            self.assertIs(can_build(plan), not wanted)
            built += not wanted
            self.assertEqual(narrow(plan) is None, not wanted)
            if wanted:
                self.assertIn(narrow(plan), wanted)
        self.assertTrue(20 < built < len(SMALL) - 20)

    def test_larger_plans(self):
        chance = random.Random(9)
        for _ in range(6):
            plan = web_plan(chance, 12)
            lots = lots_of(plan)
            self.assertEqual(all_lots(plan), lots)
            self.assertEqual(all_narrow(plan), narrow_of(plan, lots))
            self.assertEqual(narrow(plan) is None, not narrow_of(plan, lots))

    def test_what_is_told_is_narrow(self):
        for name, plan in all_plans():
            lot = narrow(plan)
            self.assertIs(can_build(plan), lot is None, name)
            self.assertEqual(lot is not None,
                             name in ("hanging", "hanging straight", "hanging by a cut", "hanging within",
                                      "two hanging", "lens", "bigon", "twice", "bulge"))
            if lot is not None:
                self.assertIs(type(lot), tuple)
                self.assertTrue(is_narrow(plan, lot))
                self.assertLess(len(exits_of(plan, lot)), 3)
                self.assertEqual(within(plan, lot), set())
                self.assertTrue(together(plan, lot))

    def test_full_plans(self):
        for sketched in (fan(37), crossed_fan(35), wheel(34)):
            plan = plan_of(sketched)
            self.assertTrue(len(plan.walls) >= 39)
            self.assertIs(narrow(plan), None)
            self.assertIs(can_build(plan), True)
        plan = plan_of(HANGING_IN_A_FAN)
        self.assertEqual(len(plan.walls), 40)
        self.assertIs(can_build(plan), False)
        self.assertTrue(is_narrow(plan, narrow(plan)))

    def test_larger_webs(self):
        chance = random.Random(10)
        sizes = []
        for joins in list(range(12)) * 2:
            plan = altered(chance, grown(chance, 3 + joins % 4, 30)[0], 10, joins)
            if joins == 0:
                # Cuts alone leave no lot narrow where none was.
                self.assertTrue(can_build(plan))
            lot = narrow(plan)
            self.assertIs(can_build(plan), lot is None)
            if lot is not None:
                self.assertTrue(is_narrow(plan, lot))
            sizes.append((len(plan.walls), lot is None))
        self.assertTrue(25 < max(size for size, can in sizes if can))
        self.assertTrue(25 < max(size for size, can in sizes if not can))


class Limits(unittest.TestCase):
    def test_fourteen_walls(self):
        plan = plan_of(fan(11))
        self.assertEqual(len(plan.walls), 14)
        lots = all_lots(plan)
        self.assertEqual(lots, sorted(lots))
        self.assertEqual(len(lots), 8283)
        self.assertTrue(all(exits_of(plan, lot) == exits(plan, lot) for lot in lots[::400]))
        self.assertEqual(all_narrow(plan), [])

    def test_fifteen_walls(self):
        plan = plan_of(fan(12))
        self.assertEqual(len(plan.walls), 15)
        for function in (all_lots, all_narrow):
            for sketched in (fan(12), TWO_HANGING, fan(37)):
                with self.assertRaises(TooMany) as caught:
                    function(plan_of(sketched))
                self.assertEqual(caught.exception.most, 14)
        self.assertIs(can_build(plan), True)

    def test_other_functions_have_no_limit(self):
        plan = plan_of(fan(37))
        self.assertTrue(is_lot(plan, tuple(range(40))))
        self.assertEqual(closed(plan, (0, 1, 2)), tuple(range(40)))
        self.assertEqual(exits(plan, (3, 4)), (0, 3, 4))
        self.assertFalse(is_narrow(plan, (3, 4)))


class Handed(unittest.TestCase):
    def test_equal_calls_and_new_lists(self):
        for name in ("lens", "tee", "hanging"):
            plan = plan_of(SKETCHES[name])
            for function in (all_lots, all_narrow):
                one, other = function(plan), function(plan)
                self.assertEqual(one, other)
                self.assertIsNot(one, other)
                self.assertIs(type(one), list)
                one.clear()
                self.assertEqual(function(plan), other)
            self.assertEqual(narrow(plan), narrow(plan_of(SKETCHES[name])))
            self.assertEqual(plan, plan_of(SKETCHES[name]))

    def test_arguments_stay_as_they_were(self):
        plan = plan_of(TEE)
        for thing in no_walls(plan):
            kept = copy.deepcopy(thing) if not isinstance(thing, StrokeError) else thing
            for function in (is_lot, is_narrow):
                function(plan, thing)
            self.assertRaises(NoWalls, closed, plan, thing)
            self.assertEqual(thing, kept)

    def test_kinds_of_values(self):
        plan = plan_of(LENS)
        for lot in all_lots(plan) + all_narrow(plan) + [narrow(plan), closed(plan, (0, 1))]:
            self.assertIs(type(lot), tuple)
            self.assertEqual({type(number) for number in lot}, {int})


if __name__ == "__main__":
    unittest.main()
