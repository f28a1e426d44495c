"""Promise 9, and of 2 to 5 what they say of drawing: frames, weights, and the drawings that they lead to."""

import copy
import random
import unittest
from fractions import Fraction

from samples import altered, convex, grown, numbers, pair, point, weights_by_chance
from sketches import (BIGON, BOWL, HANGING, HANGING_IN_A_FAN, LENS, OCTAGON, PINWHEEL, RING, SKETCHES, SPLIT, STAR, TEE,
                      TEE_STAR, all_plans, bare, crossed_fan, deep, fan, junk, plan_of, turned, wheel)
from threeexits.built import fault, is_built
from threeexits.drawing import drawing, even_weights, is_frame, is_weights, plain_frame
from threeexits.errors import NoFrame, NoSides, NoWeights, Narrow, StrokeError
from threeexits.lots import is_narrow, narrow
from threeexits.places import lies_on, many_places
from threeexits.plans import Plan

BIG = 10 ** 30 - 1
SQUARE_POINTS = tuple(point(right, up) for right, up in ((0, 0), (6, 0), (6, 6), (0, 6)))
BAD_FRACTIONS = [(0, 2), (2, 4), (-3, 6), (0, -1), (1, -1), (-1, -2), (0, 0), (1, 0), (3, 0), (2, 2), (True, 1),
                 (1, True), (False, 1), [0, 1], (0,), (0, 1, 1), (), 0, 1, "0/1", ("0", "1"), (None, 1), (0, None),
                 ((0, 1), 1), (0, (1,)), None, True, {0: 1}]


def swapped(row, at, worth):
    return row[:at] + (worth,) + row[at + 1:]


def frame_of(*corners):
    return tuple(point(right, up) for right, up in corners)


class Frames(unittest.TestCase):
    def test_plain_frames(self):
        for sides in range(3, 9):
            self.assertIs(is_frame(sides, plain_frame(sides)), True)
            for other in range(3, 9):
                self.assertEqual(is_frame(other, plain_frame(sides)), other == sides)

    def test_spelled_out(self):
        self.assertTrue(is_frame(3, frame_of((0, 0), (1, 0), (0, 1))))
        self.assertTrue(is_frame(4, SQUARE_POINTS))
        self.assertTrue(is_frame(4, frame_of((Fraction(-1, 2), 0), (0, Fraction(-7, 3)), (Fraction(5, 9), 0), (0, 1))))
        self.assertTrue(is_frame(8, tuple(point(*spot) for spot in OCTAGON[1][:8])))

    def test_by_chance_and_begun_elsewhere(self):
        chance = random.Random(1)
        for sides in range(3, 9):
            for _ in range(5):
                frame = frame_of(*convex(chance, sides))
                for by in range(sides):
                    self.assertIs(is_frame(sides, turned(frame, by)), True)
                    self.assertIs(is_frame(sides, turned(frame[::-1], by)), False)
                    self.assertIs(is_frame(sides - 1, frame), False)
                    self.assertIs(is_frame(sides + 1, frame), False)

    def test_great_and_small_numbers(self):
        self.assertTrue(is_frame(3, frame_of((BIG, -BIG), (BIG, 1 - BIG), (-BIG, BIG))))
        self.assertTrue(is_frame(3, frame_of((0, 0), (1, 0), (Fraction(1, 2), Fraction(1, BIG)))))
        self.assertFalse(is_frame(3, frame_of((0, 0), (1, 0), (Fraction(1, 2), Fraction(-1, BIG)))))
        self.assertTrue(is_frame(4, frame_of((0, 0), (1, Fraction(-1, BIG)), (2, 0), (1, 1))))
        self.assertFalse(is_frame(4, frame_of((0, 0), (1, Fraction(1, BIG)), (2, 0), (1, 1))))

    def test_a_corner_twice(self):
        for sides in range(4, 9):
            frame = plain_frame(sides)
            for one in range(sides):
                for other in range(sides):
                    if one != other:
                        self.assertFalse(is_frame(sides, swapped(frame, one, frame[other])))
        self.assertFalse(is_frame(3, frame_of((0, 0), (0, 0), (0, 0))))

    def test_three_on_a_line(self):
        self.assertFalse(is_frame(3, frame_of((0, 0), (1, 1), (2, 2))))
        self.assertFalse(is_frame(4, frame_of((0, 0), (3, 0), (6, 0), (0, 6))))
        self.assertFalse(is_frame(4, frame_of((3, 0), (6, 0), (0, 6), (0, 0))))
        self.assertFalse(is_frame(4, frame_of((0, 0), (6, 0), (3, 3), (0, 6))))
        self.assertTrue(is_frame(4, frame_of((0, 0), (6, 0), (3, 4), (0, 6))))

    def test_a_corner_that_turns_right(self):
        self.assertFalse(is_frame(4, frame_of((0, 0), (6, 0), (2, 2), (0, 6))))
        self.assertFalse(is_frame(5, frame_of((0, 0), (6, 0), (6, 6), (3, 1), (0, 6))))

    def test_twice_round(self):
        triangle = ((0, 0), (6, 0), (0, 6))
        self.assertFalse(is_frame(6, frame_of(*triangle, *triangle)))
        self.assertFalse(is_frame(6, frame_of((0, 0), (6, 1), (0, 6), (1, 0), (7, 2), (-1, 7))))
        star = ((0, 0), (4, 3), (-1, 3), (3, 0), (Fraction(3, 2), 5))
        pentagram = [star[at] for at in (0, 1, 2, 3, 4)]
        self.assertFalse(is_frame(5, frame_of(*pentagram)))
        self.assertTrue(is_frame(5, frame_of(*[star[at] for at in (0, 3, 1, 4, 2)])))
        eight = [spot for spot in OCTAGON[1][:8]]
        self.assertFalse(is_frame(8, frame_of(*[eight[3 * at % 8] for at in range(8)])))
        self.assertFalse(is_frame(4, frame_of((0, 0), (6, 6), (6, 0), (0, 6))))

    def test_fractions_that_are_none(self):
        for sides in (3, 5):
            frame = plain_frame(sides)
            for at in range(sides):
                for worth in BAD_FRACTIONS:
                    self.assertIs(is_frame(sides, swapped(frame, at, (worth, frame[at][1]))), False)
                    self.assertIs(is_frame(sides, swapped(frame, at, (frame[at][0], worth))), False)

    def test_points_that_are_none(self):
        frame = plain_frame(4)
        for worth in junk() + BAD_FRACTIONS + [list(frame[0]), frame[0] + frame[0][:1], frame[0][:1], (), (0, 0)]:
            self.assertIs(is_frame(4, swapped(frame, 0, worth)), False)
            self.assertIs(is_frame(4, frame[:3] + (worth,)), False)

    def test_other_kinds(self):
        for thing in junk() + [list(plain_frame(3)), (), plain_frame(3) + (None,)]:
            for sides in range(3, 9):
                self.assertIs(is_frame(sides, thing), False)

    def test_plain_frame(self):
        self.assertEqual(plain_frame(3), (((0, 1), (0, 1)), ((1, 1), (1, 1)), ((2, 1), (4, 1))))
        self.assertEqual(plain_frame(8)[7], ((7, 1), (49, 1)))
        self.assertEqual([len(plain_frame(sides)) for sides in range(3, 9)], [3, 4, 5, 6, 7, 8])

    def test_no_sides(self):
        for thing in junk() + [0, 1, 2, 9, 10, -3, (3,), [4], "5"]:
            self.assertRaises(NoSides, plain_frame, thing)


class Weights(unittest.TestCase):
    def test_even(self):
        self.assertEqual(even_weights(plan_of(TEE)), (None,) * 4 + ((1, 2),) * 4)
        self.assertEqual(even_weights(plan_of(STAR)), (None,) * 3 + (((1, 3),) * 3,))
        self.assertEqual(even_weights(plan_of(wheel(3))), (None,) * 3 + (((1, 6),) * 6,) + ((1, 2),) * 3)
        self.assertEqual(even_weights(plan_of(bare(8))), (None,) * 8)
        for name, plan in all_plans():
            self.assertIs(is_weights(plan, even_weights(plan)), True, name)

    def test_by_chance(self):
        chance = random.Random(2)
        for name, plan in all_plans():
            for _ in range(3):
                weights = weights_by_chance(chance, plan, BIG)
                self.assertIs(is_weights(plan, weights), True, name)
                self.assertIs(is_weights(plan, weights + (None,)), False)
                self.assertIs(is_weights(plan, weights[:-1]), False)
                self.assertIs(is_weights(plan, list(weights)), False)

    def test_other_kinds(self):
        for sketched in (bare(3), STAR, TEE):
            for thing in junk() + [()]:
                self.assertIs(is_weights(plan_of(sketched), thing), False)

    def test_corners(self):
        for sketched in (bare(3), STAR, TEE):
            plan = plan_of(sketched)
            even = even_weights(plan)
            for at in range(plan.sides):
                for worth in [worth for worth in junk() if worth is not None] + [0, (), (0, 1), (1, 2), ((1, 1),)]:
                    self.assertIs(is_weights(plan, swapped(even, at, worth)), False)

    def test_places_on_walls(self):
        plan = plan_of(TEE)
        even = even_weights(plan)
        for at in range(4, 8):
            for worth in junk() + BAD_FRACTIONS + [(1, 1), (0, 1), (-1, 2), (3, 2), (-BIG, 2), (BIG, 2), (BIG, BIG - 1),
                                                   ((1, 2), (1, 2)), ((1, 3),) * 3, [1, 2], (1, 2, 3)]:
                self.assertIs(is_weights(plan, swapped(even, at, worth)), False)
            for worth in [(1, BIG), (BIG - 1, BIG), (2, 3)]:
                self.assertIs(is_weights(plan, swapped(even, at, worth)), True)

    def test_stars(self):
        plan = plan_of(STAR)
        third = (1, 3)
        for worth in junk() + BAD_FRACTIONS + [
                third, (1, 2), (third,) * 2, (third,) * 4, ((1, 4),) * 4, ((1, 2), (1, 2)), [third] * 3, (), ((1, 1),),
                ((1, 3), (1, 3), (1, 4)), ((1, 2), (1, 2), (0, 1)), ((1, 1), (1, 1), (-1, 1)), ((1, 2), (1, 2), (1, 2)),
                ((1, 3), (1, 3), (2, 6)), (third, third, (BIG // 3, BIG)), ((2, 1), (-1, 2), (-1, 2)),
                ((1, BIG), (1, BIG), (BIG - 3, BIG)), (third, third, list(third)), (third, third, None),
                (third, third, 0), (third, third, (True, 3)), ((1, 4), (1, 4), (True, 2))]:
            self.assertIs(is_weights(plan, (None,) * 3 + (worth,)), False, worth)
        for worth in [((1, 2), (1, 3), (1, 6)), ((1, 6), (1, 3), (1, 2)), ((1, BIG), (1, BIG), (BIG - 2, BIG)),
                      (third,) * 3]:
            self.assertIs(is_weights(plan, (None,) * 3 + (worth,)), True)

    def test_each_part_counts(self):
        plan = plan_of(wheel(3))
        even = even_weights(plan)
        for at in range(many_places(plan)):
            for worth in (None, (1, 2), ((1, 6),) * 6):
                self.assertEqual(is_weights(plan, swapped(even, at, worth)), worth == even[at])


class Drawings(unittest.TestCase):
    def assertDrawn(self, plan, frame, weights):
        """That it is the drawing, each place by its own equation."""
        made = drawing(plan, frame, weights)
        self.assertIs(type(made), tuple)
        self.assertEqual(made[:plan.sides], frame)
        self.assertEqual(len(made), many_places(plan))
        points = numbers(made)
        for place in range(many_places(plan)):
            self.assertEqual(point(*points[place]), made[place])
        for place in range(plan.sides, many_places(plan)):
            number = lies_on(plan, place)
            if number is None:
                shares = [Fraction(*share) for share in weights[place]]
                nears = [points[near] for near in plan.rounds[place]]
            else:
                wall = plan.walls[number]
                at, part = wall.index(place), Fraction(*weights[place])
                shares = [1 - part, part]
                nears = [points[wall[at - 1]], points[wall[at + 1]]]
            for axis in (0, 1):
                self.assertEqual(points[place][axis], sum(share * near[axis] for share, near in zip(shares, nears)))
        self.assertIs(fault(plan, made), None)
        return made

    def test_spelled_out(self):
        tee = plan_of(TEE)
        made = drawing(tee, SQUARE_POINTS, even_weights(tee))
        self.assertEqual(made, SQUARE_POINTS + frame_of((3, 0), (3, 6), (3, 3), (6, 3)))
        # Wall 2 goes from corner 2 to corner 3, wall 4 from place 4 to place 5.
        made = drawing(tee, SQUARE_POINTS, (None,) * 4 + ((1, 3), (5, 6), (1, 6), (3, 4)))
        self.assertEqual(made, SQUARE_POINTS + frame_of((2, 0), (1, 6), (Fraction(11, 6), 1), (6, Fraction(9, 2))))

    def test_stars_spelled_out(self):
        star = plan_of(STAR)
        frame = frame_of((0, 0), (6, 0), (0, 6))
        self.assertEqual(drawing(star, frame, even_weights(star))[3], point(2, 2))
        self.assertEqual(star.rounds[3], (0, 1, 2))
        self.assertEqual(drawing(star, frame, (None,) * 3 + (((1, 2), (1, 3), (1, 6)),))[3], point(2, 1))

    def test_walls_in_a_circle_spelled_out(self):
        pinwheel = plan_of(PINWHEEL)
        made = drawing(pinwheel, SQUARE_POINTS, even_weights(pinwheel))
        self.assertEqual(made[8:], frame_of((3, 0), (0, 3), (3, 6), (6, 3)))
        fifths = ((12, 9), (9, 18), (18, 21), (21, 12))
        self.assertEqual(made[4:8], frame_of(*[(Fraction(right, 5), Fraction(up, 5)) for right, up in fifths]))

    def test_weights_of_a_star_go_by_its_round(self):
        bowl = plan_of(BOWL)
        self.assertEqual(bowl.rounds[4], (2, 5, 3))
        frame = frame_of((0, 0), (12, 0), (0, 12))
        weights = (None,) * 3 + (((1, 3),) * 3, ((1, 6), (1, 3), (1, 2)), ((1, 3),) * 3)
        self.assertDrawn(bowl, frame, weights)

    def test_bare(self):
        for sides in range(3, 9):
            plan = plan_of(bare(sides))
            self.assertEqual(drawing(plan, plain_frame(sides), even_weights(plan)), plain_frame(sides))

    def test_all_sketches(self):
        chance = random.Random(3)
        for name, plan in all_plans():
            if narrow(plan) is None:
                with self.subTest(name):
                    self.assertDrawn(plan, plain_frame(plan.sides), even_weights(plan))
                    frame = frame_of(*convex(chance, plan.sides))
                    self.assertDrawn(plan, frame, weights_by_chance(chance, plan, 50))

    def test_walls_put_by_chance(self):
        chance = random.Random(4)
        for sides in range(3, 9):
            for walls in (9, 20, 40):
                plan, _ = grown(chance, sides, walls)
                self.assertDrawn(plan, plain_frame(sides), even_weights(plan))
                self.assertDrawn(plan, frame_of(*convex(chance, sides)), weights_by_chance(chance, plan, BIG))

    def test_walls_cut_and_joined_by_chance(self):
        chance = random.Random(5)
        many = 0
        for sides in list(range(3, 9)) * 3:
            plan = altered(chance, grown(chance, sides, 25)[0], 9, chance.randint(0, 6))
            if narrow(plan) is None:
                many += 1
                self.assertDrawn(plan, frame_of(*convex(chance, sides)), weights_by_chance(chance, plan, 1000))
            else:
                self.assertRaises(Narrow, drawing, plan, plain_frame(sides), even_weights(plan))
        self.assertTrue(6 < many < 18)

    def test_weights_near_0_and_near_1(self):
        chance = random.Random(6)
        for sketched in (TEE, PINWHEEL, RING, TEE_STAR, BOWL, OCTAGON, crossed_fan(4), wheel(3)):
            plan = plan_of(sketched)
            for _ in range(4):
                weights = tuple(None if place < plan.sides else
                                chance.choice(((1, BIG), (BIG - 1, BIG))) if lies_on(plan, place) is not None else
                                turned((pair(1 - Fraction(len(ring) - 1, BIG)),) + ((1, BIG),) * (len(ring) - 1),
                                       chance.randrange(len(ring)))
                                for place, ring in enumerate(plan.rounds))
                self.assertTrue(is_weights(plan, weights))
                self.assertDrawn(plan, plain_frame(plan.sides), weights)

    def test_drawn_out_frames(self):
        frames = [frame_of((0, 0), (BIG, 0), (BIG, Fraction(1, BIG)), (0, Fraction(1, BIG))),
                  frame_of((-BIG, -BIG), (1 - BIG, -BIG), (BIG, BIG), (BIG - 2, BIG)),
                  frame_of((0, 0), (1, Fraction(-1, BIG)), (2, 0), (1, BIG))]
        for sketched in (TEE, PINWHEEL, TEE_STAR, SPLIT):
            plan = plan_of(sketched)
            for frame in frames:
                self.assertTrue(is_frame(4, frame))
                self.assertDrawn(plan, frame, even_weights(plan))

    def test_full_plans(self):
        chance = random.Random(7)
        for sketched in (fan(37), crossed_fan(35), wheel(34)):
            plan = plan_of(sketched)
            self.assertDrawn(plan, plain_frame(3), weights_by_chance(chance, plan, BIG))

    def test_what_was_returned_may_be_a_frame(self):
        chance = random.Random(8)
        plan, tee = plan_of(PINWHEEL), plan_of(TEE)
        made = drawing(plan, plain_frame(4), weights_by_chance(chance, plan, BIG))
        frame = (made[0], made[8], made[4], made[9])
        self.assertDrawn(tee, frame, weights_by_chance(chance, tee, BIG))

    def test_whatever_the_spelling(self):
        chance = random.Random(9)
        for sketched in (TEE, PINWHEEL, RING, BOWL, crossed_fan(4)):
            sides, walls, rounds = sketched[0]
            plan = plan_of(sketched)
            weights = weights_by_chance(chance, plan, 99)
            made = drawing(plan, plain_frame(sides), weights)
            for _ in range(3):
                others = [wall[::chance.choice((1, -1))] for wall in walls[sides:]]
                chance.shuffle(others)
                again = Plan(sides, walls[:sides] + tuple(others),
                             tuple(turned(ring, chance.randrange(len(ring))) for ring in rounds))
                self.assertEqual(drawing(again, plain_frame(sides), weights), made)

    def test_equal_calls(self):
        plan = plan_of(PINWHEEL)
        self.assertEqual(*[drawing(plan, plain_frame(4), even_weights(plan)) for _ in range(2)])
        self.assertEqual(plan, plan_of(PINWHEEL))


class Refused(unittest.TestCase):
    def test_no_frame(self):
        plan = plan_of(TEE)
        even = even_weights(plan)
        for thing in junk() + [plain_frame(3), plain_frame(5), plain_frame(4)[::-1], list(plain_frame(4)), (),
                               frame_of((0, 0), (3, 0), (6, 0), (0, 6))]:
            self.assertRaises(NoFrame, drawing, plan, thing, even)

    def test_no_weights(self):
        plan = plan_of(TEE)
        even = even_weights(plan)
        for thing in junk() + [even[:-1], even + (None,), list(even), (), swapped(even, 0, (1, 2)),
                               swapped(even, 4, None), swapped(even, 7, (2, 4)), even_weights(plan_of(STAR))]:
            self.assertRaises(NoWeights, drawing, plan, plain_frame(4), thing)

    def test_narrow(self):
        for sketched in (LENS, BIGON, HANGING, HANGING_IN_A_FAN, SKETCHES["two hanging"]):
            plan = plan_of(sketched)
            for frame in (plain_frame(3), frame_of((0, 0), (1, 0), (0, 1))):
                with self.assertRaises(Narrow) as caught:
                    drawing(plan, frame, even_weights(plan))
                self.assertEqual(caught.exception.lot, narrow(plan))
                self.assertTrue(is_narrow(plan, caught.exception.lot))

    def test_order_of_the_errors(self):
        tee, lens = plan_of(TEE), plan_of(LENS)
        for plan in (tee, lens):
            self.assertRaises(NoFrame, drawing, plan, None, None)
            self.assertRaises(NoFrame, drawing, plan, plain_frame(8), even_weights(plan))
            self.assertRaises(NoWeights, drawing, plan, plain_frame(plan.sides), None)
        self.assertRaises(NoFrame, drawing, lens, plain_frame(3)[::-1], even_weights(lens))
        self.assertRaises(Narrow, drawing, lens, plain_frame(3), even_weights(lens))

    def test_deep_things(self):
        plan = plan_of(STAR)
        for kind in (tuple, list, dict):
            thing = deep(kind)
            inner = deep(kind, 29)
            kept = copy.deepcopy(thing)
            self.assertFalse(is_frame(3, thing))
            self.assertFalse(is_frame(3, (inner,) * 3))
            self.assertFalse(is_weights(plan, thing))
            self.assertFalse(is_weights(plan, (None, None, None, inner)))
            self.assertRaises(NoSides, plain_frame, thing)
            self.assertRaises(NoFrame, drawing, plan, thing, thing)
            self.assertRaises(NoWeights, drawing, plan, plain_frame(3), thing)
            self.assertEqual(thing, kept)

    def test_all_are_errors_of_the_package(self):
        for kind in (NoFrame, NoWeights, NoSides, Narrow):
            self.assertEqual(kind.__bases__, (StrokeError,))


class Fact(unittest.TestCase):
    def test_no_drawing_of_a_plan_with_a_narrow_lot_is_built(self):
        chance = random.Random(10)
        for sketched in (LENS, BIGON, HANGING):
            plan = plan_of(sketched)
            points = [(Fraction(right), Fraction(up)) for right, up in sketched[1]]
            self.assertFalse(is_built(plan, frame_of(*points)))
            for _ in range(50):
                moved = points[:3] + [(Fraction(chance.randint(0, 12)), Fraction(chance.randint(0, 12)))
                                      for _ in points[3:]]
                self.assertFalse(is_built(plan, frame_of(*moved)))


if __name__ == "__main__":
    unittest.main()
