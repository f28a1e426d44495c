"""Promise 6, and of 2 to 4 what they say of plans: which plans are good, how they are kept, when they are equal."""

import copy
import itertools
import random
import unittest

from sketches import (HANGING, HANGING_STRAIGHT, OCTAGON, PINWHEEL, SKETCHES, SPLIT, SQUARE, STAR, TEE, TRIANGLE,
                      TRIANGLE_FRAME, all_plans, bare, crossed_fan, deep, fan, junk, plan_of, sketch, turned, wheel)
from threeexits.errors import BadPlan, StrokeError
from threeexits.plans import Plan

BARE = (3, ((0, 1), (1, 2), (2, 0)), ((1, 2), (0, 2), (0, 1)))
SQUARE_FRAME = [(0, 1), (1, 2), (2, 3), (3, 0)]
CROSSING = sketch(4, SQUARE + [(3, 3)], SQUARE_FRAME + [(0, 4, 2), (1, 4, 3)])[0]
CORNER_ON_A_WALL = sketch(3, TRIANGLE + [(4, 2), (2, 4)],
                          TRIANGLE_FRAME + [(3, 0, 4), (3, 1), (4, 2), (3, 4)])[0]
FRAME_CROSSED = sketch(3, TRIANGLE + [(6, 0), (4, 2), (7, 2)],
                       [(0, 3, 1), (1, 2), (2, 0), (4, 3, 5), (0, 4), (2, 4), (1, 5), (4, 5)])[0]
BENT_FRAME = sketch(3, TRIANGLE + [(6, 0)], [(0, 3, 1), (1, 2), (2, 0)])[0]
FOUR = [(3, 4), (4, 5), (5, 3), (3, 6), (4, 6), (5, 6)]


def swapped(row, at, worth):
    """The tuple with another item at this index."""
    return row[:at] + (worth,) + row[at + 1:]


def reversed_at(rounds, *places):
    """The rounds, those of these places turned about."""
    return tuple(ring[::-1] if place in places else ring for place, ring in enumerate(rounds))


def many_rims(rounds):
    """How many rims there are, counted on its own for the tests."""
    ahead = {}
    for place, ring in enumerate(rounds):
        for at, near in enumerate(ring):
            ahead[near, place] = (place, ring[at - 1])
    many = 0
    while ahead:
        step, _ = next(iter(ahead.items()))
        while step in ahead:
            step = ahead.pop(step)
        many += 1
    return many


class PlanTests(unittest.TestCase):
    def assertBad(self, part, sides, walls, rounds):
        with self.assertRaises(BadPlan) as caught:
            Plan(sides, walls, rounds)
        self.assertEqual(caught.exception.part, part)


class Good(PlanTests):
    def test_bare(self):
        for sides in range(3, 9):
            walls = tuple((corner, (corner + 1) % sides) for corner in range(sides))
            rounds = tuple(tuple(sorted(((at + 1) % sides, (at - 1) % sides))) for at in range(sides))
            plan = Plan(sides, walls, rounds)
            self.assertEqual((plan.sides, plan.walls, plan.rounds), (sides, walls, rounds))
        plan = Plan(*BARE)
        self.assertEqual((plan.sides, plan.walls, plan.rounds), BARE)

    def test_spelled_out(self):
        plan = Plan(4, ((0, 4, 1), (1, 2), (2, 5, 3), (3, 0), (5, 4)),
                    ((4, 3), (2, 4), (5, 1), (0, 5), (5, 0, 1), (4, 2, 3)))
        self.assertEqual(plan.sides, 4)
        self.assertEqual(plan.walls, ((0, 4, 1), (1, 2), (2, 5, 3), (3, 0), (4, 5)))
        self.assertEqual(plan.rounds, ((3, 4), (2, 4), (1, 5), (0, 5), (0, 1, 5), (2, 3, 4)))

    def test_all_sketches_are_plans(self):
        for name, sketched in SKETCHES.items():
            with self.subTest(name):
                self.assertEqual(Plan(*sketched[0]).sides, sketched[0][0])

    def test_form_of_the_attributes(self):
        for name, plan in all_plans():
            with self.subTest(name):
                self.assertIs(type(plan.sides), int)
                others = plan.walls[plan.sides:]
                self.assertEqual([(wall[0], wall[-1]) for wall in plan.walls[:plan.sides]],
                                 [(corner, (corner + 1) % plan.sides) for corner in range(plan.sides)])
                self.assertEqual(others, tuple(sorted(others)))
                self.assertTrue(all(wall[0] < wall[-1] for wall in others))
                self.assertTrue(all(ring[0] == min(ring) for ring in plan.rounds))
                for rows in (plan.walls, plan.rounds):
                    self.assertIs(type(rows), tuple)
                    self.assertEqual({type(row) for row in rows}, {tuple})
                    self.assertEqual({type(place) for row in rows for place in row}, {int})

    def test_walls_keep_what_they_are(self):
        for sketched in SKETCHES.values():
            sides, walls, rounds = sketched[0]
            plan = Plan(sides, walls, rounds)
            self.assertEqual(plan.walls[:sides], walls[:sides])
            self.assertEqual({frozenset((wall, wall[::-1])) for wall in plan.walls},
                             {frozenset((wall, wall[::-1])) for wall in walls})
            for kept, ring in zip(plan.rounds, rounds):
                self.assertIn(kept, [turned(ring, by) for by in range(len(ring))])

    def test_attributes_make_the_plan_again(self):
        for name, plan in all_plans():
            with self.subTest(name):
                self.assertEqual(Plan(plan.sides, plan.walls, plan.rounds), plan)

    def test_as_many_as_may_be(self):
        self.assertEqual(len(plan_of(fan(37)).walls), 40)
        self.assertEqual(len(plan_of(fan(37)).rounds), 40)
        self.assertEqual(len(plan_of(crossed_fan(35)).rounds), 40)
        self.assertEqual(len(plan_of(wheel(34)).walls), 40)


class BadSides(PlanTests):
    def test_other_numbers(self):
        for sides in (-3, 0, 1, 2, 9, 10, 10 ** 29, -10 ** 29):
            self.assertBad("sides", sides, BARE[1], BARE[2])

    def test_just_beyond(self):
        self.assertBad("sides", 2, ((0, 1), (1, 0)), ((1,), (0,)))
        self.assertBad("sides", *bare(9)[0])

    def test_other_kinds(self):
        for sides in junk() + [(3,), [3], "3", 3.0]:
            self.assertBad("sides", sides, BARE[1], BARE[2])

    def test_ahead_of_all_others(self):
        self.assertBad("sides", 2, None, None)
        self.assertBad("sides", None, BARE[1], BARE[2])
        self.assertBad("sides", True, ((0, 1),), ())


class BadWalls(PlanTests):
    def test_other_kinds(self):
        for walls in junk():
            self.assertBad("walls", 3, walls, BARE[2])

    def test_other_kinds_within(self):
        for worth in junk():
            for at in range(len(STAR[0][1])):
                self.assertBad("walls", 3, swapped(STAR[0][1], at, worth), STAR[0][2])
            self.assertBad("walls", 3, swapped(STAR[0][1], 4, (1, worth)), STAR[0][2])
            self.assertBad("walls", 3, swapped(STAR[0][1], 4, (worth, 3)), STAR[0][2])

    def test_flags_are_no_places(self):
        self.assertBad("walls", 3, ((0, True), (1, 2), (2, 0)), BARE[2])
        self.assertBad("walls", 3, ((False, 1), (1, 2), (2, 0)), BARE[2])

    def test_lists_are_no_walls(self):
        self.assertBad("walls", 3, list(BARE[1]), BARE[2])
        self.assertBad("walls", 3, ([0, 1], (1, 2), (2, 0)), BARE[2])

    def test_too_short_a_wall(self):
        self.assertBad("walls", 3, BARE[1] + ((0,),), BARE[2])
        self.assertBad("walls", 3, BARE[1] + ((),), BARE[2])

    def test_a_place_twice_in_a_wall(self):
        self.assertBad("walls", 3, BARE[1] + ((0, 1, 0),), BARE[2])
        self.assertBad("walls", 3, STAR[0][1][:3] + ((0, 3, 3), (1, 3), (2, 3)), STAR[0][2])

    def test_fewer_walls_than_sides(self):
        self.assertBad("walls", 3, ((0, 1), (1, 2)), ((1,), (0, 2), (1,)))
        self.assertBad("walls", 4, BARE[1], BARE[2])
        self.assertBad("walls", 3, (), ())

    def test_a_gap_in_the_places(self):
        walls = tuple(tuple(4 if place == 3 else place for place in wall) for wall in STAR[0][1])
        self.assertBad("walls", 3, walls, STAR[0][2])
        self.assertBad("walls", 3, tuple(tuple(place - 1 for place in wall) for wall in BARE[1]), BARE[2])

    def test_a_corner_in_no_wall(self):
        self.assertBad("walls", 4, ((0, 1), (1, 2), (2, 0), (1, 0)), BARE[2])

    def test_too_many_walls(self):
        self.assertEqual(len(wheel(35)[0][1]), 41)
        self.assertEqual(len(wheel(35)[0][2]), 39)
        self.assertBad("walls", *wheel(35)[0])

    def test_too_many_places(self):
        self.assertEqual(len(crossed_fan(36)[0][1]), 40)
        self.assertEqual(len(crossed_fan(36)[0][2]), 41)
        self.assertBad("walls", *crossed_fan(36)[0])

    def test_too_many_of_both(self):
        self.assertBad("walls", *fan(38)[0])
        self.assertBad("walls", 3, tuple((place, place + 1) for place in range(33000)), ())
        self.assertBad("walls", 3, BARE[1] + (tuple(range(90000)),), BARE[2])

    def test_ahead_of_later_parts(self):
        self.assertBad("walls", 3, ((1, 0), (2, 1), (3,)), None)
        self.assertBad("walls", 3, ((0, 1), (0, 1), (0, 1), (0, 1), (2, 4)), ())


class BadFrame(PlanTests):
    def test_other_orders(self):
        for walls in itertools.permutations(BARE[1]):
            if walls != BARE[1]:
                self.assertBad("frame", 3, walls, BARE[2])

    def test_turned_about(self):
        for at in range(3):
            self.assertBad("frame", 3, swapped(BARE[1], at, BARE[1][at][::-1]), BARE[2])

    def test_behind_another_wall(self):
        sides, walls, rounds = SPLIT[0]
        self.assertBad("frame", sides, walls[-1:] + walls[:-1], rounds)

    def test_other_numbers_of_sides(self):
        sides, walls, rounds = SPLIT[0]
        self.assertBad("frame", 3, walls, rounds)
        self.assertBad("frame", 5, walls, rounds)

    def test_ahead_of_later_parts(self):
        self.assertBad("frame", 3, ((1, 0), (1, 2), (2, 0), (0, 1)), BARE[2])
        self.assertBad("frame", 4, CROSSING[1][1:] + CROSSING[1][:1], CROSSING[2])
        self.assertBad("frame", 3, ((1, 3, 0), (1, 2), (2, 0)), BENT_FRAME[2])
        self.assertBad("frame", 3, ((0, 2), (2, 1), (1, 0)), None)


class BadTies(PlanTests):
    def test_a_tie_twice(self):
        self.assertBad("ties", 3, BARE[1] + ((0, 1),), BARE[2])
        self.assertBad("ties", 3, BARE[1] + ((0, 2),), BARE[2])
        for more in ((4, 5), (5, 4), (0, 4), (5, 3), (2, 1), (0, 3)):
            self.assertBad("ties", 4, SPLIT[0][1] + (more,), SPLIT[0][2])

    def test_ahead_of_later_parts(self):
        self.assertBad("ties", 4, CROSSING[1] + ((1, 0),), CROSSING[2])
        self.assertBad("ties", 3, BENT_FRAME[1] + ((0, 3),), BENT_FRAME[2])
        self.assertBad("ties", 3, BARE[1] + ((0, 1),), None)
        self.assertBad("ties", 3, STAR[0][1] + ((0, 1),), reversed_at(STAR[0][2], 0, 1, 2, 3))


class BadLies(PlanTests):
    def test_two_walls_cross(self):
        self.assertBad("lies", *CROSSING)

    def test_a_wall_crosses_the_frame(self):
        self.assertBad("lies", *FRAME_CROSSED)

    def test_a_corner_lies_on_a_wall(self):
        self.assertBad("lies", *CORNER_ON_A_WALL)

    def test_each_of_these_is_a_plan_if_the_wall_is_cut(self):
        for bad, wall in ((CROSSING, (1, 4, 3)), (FRAME_CROSSED, (4, 3, 5)), (CORNER_ON_A_WALL, (3, 0, 4))):
            sides, walls, rounds = bad
            cut = tuple(other for other in walls if other != wall) + (wall[:2], wall[1:])
            self.assertEqual(Plan(sides, cut, rounds).rounds,
                             tuple(turned(ring, ring.index(min(ring))) for ring in rounds))

    def test_ahead_of_later_parts(self):
        self.assertBad("lies", 4, CROSSING[1] + ((0, 5),), CROSSING[2] + ((0,),))
        self.assertBad("lies", 4, CROSSING[1], None)
        self.assertBad("lies", 4, CROSSING[1], reversed_at(CROSSING[2], 4))


class BadStars(PlanTests):
    def test_a_place_on_the_frame(self):
        self.assertBad("stars", *BENT_FRAME)

    def test_a_place_on_another_wall(self):
        self.assertBad("stars", *sketch(4, SPLIT[1] + [(2, 3)], [
            (0, 4, 1), (1, 2), (2, 5, 3), (3, 0), (4, 6, 5)])[0])

    def test_a_bend(self):
        self.assertBad("stars", *sketch(3, TRIANGLE + [(3, 3)], TRIANGLE_FRAME + [(0, 3), (1, 3)])[0])

    def test_a_loose_end(self):
        self.assertBad("stars", *sketch(3, TRIANGLE + [(3, 3)], TRIANGLE_FRAME + [(0, 3)])[0])

    def test_corners_may_have_two_ties(self):
        self.assertEqual({len(ring) for ring in plan_of(SPLIT).rounds[:4]}, {2})

    def test_ahead_of_later_parts(self):
        self.assertBad("stars", 3, BENT_FRAME[1], None)
        self.assertBad("stars", 3, BENT_FRAME[1], BENT_FRAME[2][:3])
        # Two places that hang together with each other alone.
        self.assertBad("stars", 3, BARE[1] + ((3, 4),), BARE[2] + ((4,), (3,)))


class BadRounds(PlanTests):
    def test_other_kinds(self):
        for rounds in junk():
            self.assertBad("rounds", 3, BARE[1], rounds)

    def test_other_kinds_within(self):
        sides, walls, rounds = STAR[0]
        for worth in junk():
            self.assertBad("rounds", sides, walls, rounds + (worth,))
            for at in range(len(rounds)):
                if worth != (0, 1, 2):
                    self.assertBad("rounds", sides, walls, swapped(rounds, at, worth))
                self.assertBad("rounds", sides, walls, swapped(rounds, at, rounds[at][:-1] + (worth,)))

    def test_flags_are_no_places(self):
        self.assertBad("rounds", 3, BARE[1], ((True, 2), (0, 2), (0, 1)))
        self.assertBad("rounds", 3, BARE[1], ((1, 2), (False, 2), (0, 1)))

    def test_lists_are_no_rounds(self):
        self.assertBad("rounds", 3, BARE[1], list(BARE[2]))
        self.assertBad("rounds", 3, BARE[1], ([1, 2], (0, 2), (0, 1)))

    def test_too_few_and_too_many(self):
        self.assertBad("rounds", 3, BARE[1], BARE[2][:2])
        self.assertBad("rounds", 3, BARE[1], BARE[2] + ((0, 1),))
        self.assertBad("rounds", 3, BARE[1], ())

    def test_other_places_within(self):
        for ring in ((), (1,), (1, 1), (1, 2, 2), (1, 2, 1), (1, 3), (0, 1), (0, 1, 2), (1, -1)):
            self.assertBad("rounds", 3, BARE[1], (ring,) + BARE[2][1:])

    def test_rounds_of_other_places(self):
        self.assertBad("rounds", 3, BARE[1], BARE[2][1:] + BARE[2][:1])

    def test_ahead_of_later_parts(self):
        sides, walls, rounds = STAR[0]
        self.assertBad("rounds", sides, walls, swapped(reversed_at(rounds, 3), 0, (1, 2)))
        self.assertBad("rounds", sides, walls, swapped(reversed_at(rounds, 0, 1, 2, 3), 0, ()))
        self.assertBad("rounds", 3, BARE[1] + tuple(FOUR), BARE[2])


class BadFlat(PlanTests):
    def apart(self):
        """A bare triangle and four places by themselves, each tied to each other one."""
        return sketch(3, TRIANGLE + [(2, 2), (5, 2), (2, 5), (3, 3)], TRIANGLE_FRAME + FOUR)[0]

    def test_one_round_turned_about(self):
        for sketched in (STAR, PINWHEEL, HANGING):
            sides, walls, rounds = sketched[0]
            for place in range(sides, len(rounds)):
                self.assertBad("flat", sides, walls, reversed_at(rounds, place))

    def test_too_few_rims(self):
        for sketched in SKETCHES.values():
            sides, walls, rounds = sketched[0]
            for place in range(len(rounds)):
                twisted = reversed_at(rounds, place)
                if many_rims(twisted) < many_rims(rounds):
                    self.assertBad("flat", sides, walls, twisted)

    def test_apart(self):
        self.assertBad("flat", *self.apart())

    def test_apart_with_as_many_rims_as_if_it_were_flat(self):
        sides, walls, rounds = self.apart()
        twisted = reversed_at(rounds, 6)
        self.assertEqual(len(rounds) + many_rims(twisted), 9 + 2)
        self.assertBad("flat", sides, walls, twisted)

    def test_ahead_of_the_rim(self):
        sides, walls, rounds = STAR[0]
        self.assertBad("flat", sides, walls, reversed_at(rounds, 0, 1, 2))
        self.assertBad("flat", sides, walls, reversed_at(rounds, 0))


class BadRim(PlanTests):
    def test_all_rounds_turned_about(self):
        for sketched in (STAR, SPLIT, TEE, PINWHEEL, OCTAGON, HANGING):
            sides, walls, rounds = sketched[0]
            self.assertBad("rim", sides, walls, reversed_at(rounds, *range(len(rounds))))

    def test_a_star_outside(self):
        self.assertBad("rim", *sketch(3, TRIANGLE + [(-9, -9)], TRIANGLE_FRAME + [(0, 3), (1, 3), (2, 3)])[0])

    def test_something_hangs_outside(self):
        self.assertBad("rim", *sketch(3, TRIANGLE + [(-2, -2), (-5, -2), (-2, -5), (-3, -3)],
                                      TRIANGLE_FRAME + [(0, 3)] + FOUR)[0])

    def test_something_hangs_outside_at_each_frame_wall(self):
        for at, (right, up) in enumerate(((6, 0), (6, 6), (0, 6))):
            frame = list(TRIANGLE_FRAME)
            frame[at] = (at, 7, (at + 1) % 3)
            way = ((0, -1), (1, 1), (-1, 0))[at]
            base = (right + 20 * way[0], up + 20 * way[1])
            points = [(base[0] + dx, base[1] + dy) for dx, dy in ((0, 0), (1, 0), (0, 1), (0.3, 0.3))]
            near = min(range(4), key=lambda k: (points[k][0] - right) ** 2 + (points[k][1] - up) ** 2)
            outside = sketch(3, TRIANGLE + points + [(right, up)], frame + FOUR + [(3 + near, 7)])[0]
            self.assertEqual(many_rims(outside[2]), 5)
            self.assertBad("rim", *outside)


class Equal(PlanTests):
    def respelled(self, chance, sides, walls, rounds):
        others = [wall[::chance.choice((1, -1))] for wall in walls[sides:]]
        chance.shuffle(others)
        return (sides, walls[:sides] + tuple(others),
                tuple(turned(ring, chance.randrange(len(ring))) for ring in rounds))

    def test_spelled_otherwise(self):
        chance = random.Random(20)
        for name, sketched in SKETCHES.items():
            plan = plan_of(sketched)
            for _ in range(5):
                other = Plan(*self.respelled(chance, *sketched[0]))
                self.assertEqual(plan, other, name)
                self.assertFalse(plan != other)
                self.assertEqual((plan.sides, plan.walls, plan.rounds), (other.sides, other.walls, other.rounds))

    def test_unlike_plans(self):
        plans = all_plans()
        for (_, one), (_, other) in itertools.permutations(plans, 2):
            self.assertNotEqual(one, other)
            self.assertFalse(one == other)

    def test_unlike_walls_alone(self):
        one, other = plan_of(HANGING), plan_of(HANGING_STRAIGHT)
        self.assertEqual((one.sides, one.rounds), (other.sides, other.rounds))
        self.assertNotEqual(one, other)

    def test_unlike_rounds_alone(self):
        one = plan_of(HANGING)
        other = plan_of(sketch(3, TRIANGLE + [(2, 2), (2, 5), (5, 2), (3, 3)], HANGING[0][1]))
        self.assertEqual((one.sides, one.walls), (other.sides, other.walls))
        self.assertNotEqual(one, other)

    def test_not_what_is_no_plan(self):
        plan = Plan(*BARE)
        for thing in [BARE, list(BARE), 3, None, "", {}, StrokeError()]:
            self.assertFalse(plan == thing)
            self.assertTrue(plan != thing)


class Handed(PlanTests):
    def test_arguments_stay_as_they_were(self):
        walls = [[0, 1], [1, 2], [2, 0]]
        for given in (walls, tuple(walls), (BARE[1], walls)):
            kept = copy.deepcopy(given)
            self.assertBad("walls", 3, given, walls)
            self.assertEqual(given, kept)
            self.assertBad("rounds", 3, BARE[1], given)
            self.assertEqual(given, kept)

    def test_deep_things(self):
        for kind in (tuple, list, dict):
            self.assertBad("sides", deep(kind), deep(kind), deep(kind))
            self.assertBad("walls", 3, deep(kind), deep(kind))
            self.assertBad("walls", 3, BARE[1] + (deep(kind, 29),), deep(kind))
            self.assertBad("rounds", 3, BARE[1], deep(kind))
            self.assertBad("rounds", 3, BARE[1], (deep(kind, 29),) + BARE[2][1:])


if __name__ == "__main__":
    unittest.main()
