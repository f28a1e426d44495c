"""Promise 10, and of 2 to 5 what they say of built drawings: faults, areas, what is hit, and pictures."""

import copy
import random
import unittest
from fractions import Fraction

from samples import altered, convex, cross, grown, numbers, pair, point, weights_by_chance
from sketches import (BOWL, HANGING, LENS, OCTAGON, PINWHEEL, SPLIT, STAR, TEE, TEE_STAR, all_plans, bare, crossed_fan,
                      deep, fan, junk, plan_of, sketch, turned, wheel)
from threeexits.built import areas, fault, hit, is_built, picture
from threeexits.drawing import drawing, even_weights, plain_frame
from threeexits.errors import NoDrawing, NoNumber, NoPoint
from threeexits.lots import narrow
from threeexits.places import many_places, rooms

BIG = 10 ** 30 - 1
STEP = Fraction(1, 10 ** 29)
LETTERS = "abcdefghijklmnopqrstuvwxyzABCDEFGHIJKLMNOPQRSTUVWXYZ"
HALF = Fraction(1, 2)


def drawn(*spots):
    """A tuple of points of the package."""
    return tuple(point(right, up) for right, up in spots)


def of_sketch(sketched):
    return drawn(*[(Fraction(right), Fraction(up)) for right, up in sketched[1]])


def moved(made, place, right, up):
    """The drawing with a place at another point."""
    return made[:place] + (point(right, up),) + made[place + 1:]


def area(points):
    return sum(one[0] * other[1] - one[1] * other[0] for one, other in zip(points, points[1:] + points[:1])) / 2


def within(one, aim, other):
    """Whether a point is on the line between two others, the ends included."""
    return (cross(one, aim, other) == 0 and min(one[0], other[0]) <= aim[0] <= max(one[0], other[0])
            and min(one[1], other[1]) <= aim[1] <= max(one[1], other[1]))


def found_at(plan, points, aim):
    """What is at a point of a drawing, found on its own for the tests; points are pairs of Fractions."""
    for place, spot in enumerate(points):
        if spot == aim:
            return ("place", place)
    for number, wall in enumerate(plan.walls):
        if any(within(points[one], aim, points[other]) for one, other in zip(wall, wall[1:])):
            return ("wall", number)
    inside = [number for number, rim in enumerate(rooms(plan))
              if all(cross(points[one], points[other], aim) > 0 for one, other in zip(rim, rim[1:] + rim[:1]))]
    return ("room", inside[0]) if inside else ("out",)


def sign_at(plan, points, aim):
    found = found_at(plan, points, aim)
    return {"place": "#", "wall": "#", "out": "."}.get(found[0]) or LETTERS[found[1] % 52]


def middle_of(points, wide, high, line, column):
    """The middle of a cell of a picture."""
    rights, ups = [[spot[axis] for spot in points] for axis in (0, 1)]
    return (min(rights) + (max(rights) - min(rights)) * Fraction(2 * column + 1, 2 * wide),
            max(ups) - (max(ups) - min(ups)) * Fraction(2 * line + 1, 2 * high))


def built_ones():
    """Pairs of a plan and a built drawing of it."""
    chance = random.Random(1)
    found = [(plan, drawing(plan, drawn(*convex(chance, plan.sides)), weights_by_chance(chance, plan, 60)))
             for _, plan in all_plans() if narrow(plan) is None]
    found += [grown(chance, sides, walls) for sides in range(3, 9) for walls in (6, 12, 30)]
    for sides in range(3, 9):
        plan = altered(chance, grown(chance, sides, 25)[0], 9, 1)
        if narrow(plan) is None:
            found.append((plan, drawing(plan, plain_frame(sides), even_weights(plan))))
    return found


BUILT = built_ones()
SPLIT_DRAWN, TEE_DRAWN, STAR_DRAWN = of_sketch(SPLIT), of_sketch(TEE), of_sketch(STAR)
TEE_STAR_DRAWN, BOWL_DRAWN = of_sketch(TEE_STAR), of_sketch(BOWL)


class Built(unittest.TestCase):
    def test_sketches_that_are_drawn_straight(self):
        for sketched in [bare(sides) for sides in range(3, 9)] + [SPLIT, TEE, STAR, OCTAGON, fan(5), wheel(3)]:
            self.assertIs(fault(plan_of(sketched), of_sketch(sketched)), None)
            self.assertIs(is_built(plan_of(sketched), of_sketch(sketched)), True)

    def test_drawings_by_chance(self):
        for plan, made in BUILT:
            self.assertIs(fault(plan, made), None)
            self.assertIs(is_built(plan, made), True)

    def test_short_steps_at_whole_numbers(self):
        made = drawn((0, 0), (2, 0), (2, 2), (0, 2), (1, 0), (1, 2))
        self.assertIs(fault(plan_of(SPLIT), made), None)
        self.assertEqual(hit(plan_of(SPLIT), made, point(1, 1)), ("wall", 4))
        self.assertEqual(hit(plan_of(SPLIT), made, point(0, 1)), ("wall", 3))
        self.assertEqual(hit(plan_of(bare(3)), drawn((0, 0), (2, 1), (1, 2)), point(1, 1)), ("room", 0))

    def test_great_numbers_and_small_steps(self):
        plan = plan_of(SPLIT)
        made = drawn((0, 0), (BIG, 0), (BIG, STEP), (0, STEP), (STEP, 0), (BIG - 1, STEP))
        self.assertIs(fault(plan, made), None)
        self.assertEqual(fault(plan, moved(made, 4, STEP, STEP * STEP)), ("wall", 0))
        self.assertEqual(fault(plan, moved(made, 4, -STEP, 0)), ("wall", 0))
        star = plan_of(STAR)
        corners = STAR_DRAWN[:3]
        for right, up, wanted in [(STEP, STEP, None), (STEP, 0, ("room", 0)), (STEP, -STEP, ("room", 0)),
                                  (0, STEP, ("room", 1)), (6, 6, ("room", 2)), (6, 6 - STEP, None),
                                  (6, 6 + STEP, ("room", 2))]:
            self.assertEqual(fault(star, corners + drawn((right, up))), wanted)


class Faults(unittest.TestCase):
    def assertFault(self, wanted, sketched, made):
        plan = plan_of(sketched)
        self.assertEqual(fault(plan, made), wanted)
        self.assertIs(is_built(plan, made), False)
        self.assertRaises(NoDrawing, areas, plan, made)
        self.assertRaises(NoDrawing, hit, plan, made, point(0, 0))
        self.assertRaises(NoDrawing, picture, plan, made, 1, 1)

    def test_form(self):
        for thing in junk() + [(), list(TEE_DRAWN), TEE_DRAWN[:-1], TEE_DRAWN + TEE_DRAWN[:1], SPLIT_DRAWN]:
            self.assertFault(("form",), TEE, thing)
        for worth in junk() + [(0, 0), ((0, 1),), ((0, 1), (0, 1), (0, 1)), [(0, 1), (0, 1)], ((0, 2), (0, 1)),
                               ((6, 2), (0, 1)), ((3, 1), (0, -1)), ((3, 1), (1, 0)), ((3, 1), (True, 1)),
                               ((3, 1), (0, True)), ((3, 1), [0, 1]), ((3, 1), 0), ((3, 1), None)]:
            for at in range(8):
                self.assertFault(("form",), TEE, TEE_DRAWN[:at] + (worth,) + TEE_DRAWN[at + 1:])

    def test_frame(self):
        self.assertFault(("frame",), TEE, moved(TEE_DRAWN, 2, 0, 6))
        self.assertFault(("frame",), TEE, moved(TEE_DRAWN, 2, 3, 3))
        self.assertFault(("frame",), TEE, moved(TEE_DRAWN, 2, 1, 1))
        self.assertFault(("frame",), bare(3), of_sketch(bare(3))[::-1])
        self.assertFault(("frame",), bare(5), drawn((0, 0), (4, 3), (-1, 3), (3, 0), (Fraction(3, 2), 5)))
        mirrored = drawn(*[(-right, up) for right, up in numbers(TEE_DRAWN)])
        self.assertFault(("frame",), TEE, mirrored)
        octagon = of_sketch(OCTAGON)
        self.assertFault(("frame",), OCTAGON, octagon[:3] + octagon[2:3] + octagon[4:])

    def test_a_wall(self):
        self.assertFault(("wall", 0), TEE, moved(TEE_DRAWN, 4, 2, STEP))
        self.assertFault(("wall", 0), TEE, moved(TEE_DRAWN, 4, -1, 0))
        self.assertFault(("wall", 0), TEE, moved(TEE_DRAWN, 4, 7, 0))
        self.assertFault(("wall", 0), TEE, moved(TEE_DRAWN, 4, 0, 0))
        self.assertFault(("wall", 0), TEE, moved(TEE_DRAWN, 4, 6, 0))
        self.assertFault(("wall", 1), TEE, moved(TEE_DRAWN, 7, 5, 3))
        self.assertFault(("wall", 2), TEE, moved(TEE_DRAWN, 5, 7, 6))
        self.assertFault(("wall", 4), TEE, moved(TEE_DRAWN, 6, 2 + STEP, 3))
        self.assertFault(("wall", 4), TEE, moved(TEE_DRAWN, 6, 2, 7))

    def test_two_places_at_one_point(self):
        self.assertFault(("wall", 3), STAR, moved(STAR_DRAWN, 3, 0, 0))
        self.assertFault(("wall", 4), STAR, moved(STAR_DRAWN, 3, 12, 0))
        self.assertFault(("wall", 5), STAR, moved(STAR_DRAWN, 3, 0, 12))
        # The order along a wall, where two of its inner places are at one point or changed about.
        plan = plan_of(fan(5))
        self.assertEqual(plan.walls[1], (1, 3, 4, 5, 6, 7, 2))
        made = of_sketch(fan(5))
        self.assertFault(("wall", 1), fan(5), made[:4] + made[3:4] + made[5:])
        self.assertFault(("wall", 1), fan(5), made[:4] + (made[5], made[4]) + made[6:])

    def test_least_wall(self):
        both = moved(moved(TEE_DRAWN, 5, 2, 7), 7, 7, 3)
        self.assertFault(("wall", 1), TEE, both)
        self.assertFault(("wall", 0), TEE, moved(both, 4, 2, 1))
        self.assertFault(("wall", 2), TEE, moved(moved(TEE_DRAWN, 5, 2, 7), 6, 3, 3))

    def test_a_room(self):
        self.assertFault(("room", 0), STAR, moved(STAR_DRAWN, 3, 4, 0))
        self.assertFault(("room", 0), STAR, moved(STAR_DRAWN, 3, 4, -1))
        self.assertFault(("room", 1), STAR, moved(STAR_DRAWN, 3, -1, 4))
        self.assertFault(("room", 2), STAR, moved(STAR_DRAWN, 3, 7, 7))
        # Beyond a corner it is on the wrong side of two walls of the frame.
        self.assertFault(("room", 0), STAR, moved(STAR_DRAWN, 3, 13, -2))
        self.assertFault(("room", 0), STAR, moved(STAR_DRAWN, 3, -1, -1))

    def test_straight_on_at_a_star(self):
        plan = plan_of(TEE_STAR)
        self.assertEqual(rooms(plan), ((0, 5, 4, 7, 3), (1, 6, 4, 5), (2, 7, 4, 6)))
        self.assertFault(("room", 0), TEE_STAR, TEE_STAR_DRAWN)
        self.assertIs(fault(plan, moved(TEE_STAR_DRAWN, 4, 2 + STEP, 3)), None)
        self.assertFault(("room", 0), TEE_STAR, moved(TEE_STAR_DRAWN, 4, 2 - STEP, 3))
        # The same points are built where a wall goes on at place 4.
        straight = sketch(4, TEE_STAR[1], [(0, 5, 1), (1, 6, 2), (2, 7, 3), (3, 0), (5, 4, 7), (4, 6)])
        self.assertIs(fault(plan_of(straight), TEE_STAR_DRAWN), None)

    def test_straight_on_at_the_last_place(self):
        plan = plan_of(BOWL)
        self.assertEqual(rooms(plan)[0], (0, 1, 3, 4, 5))
        self.assertFault(("room", 0), BOWL, moved(BOWL_DRAWN, 5, 2, 2))
        self.assertFault(("room", 0), BOWL, moved(BOWL_DRAWN, 5, 3, 2))

    def test_a_corner_where_one_goes_back(self):
        self.assertFault(("room", 0), TEE_STAR, moved(TEE_STAR_DRAWN, 4, 2, -1))
        self.assertFault(("room", 1), TEE_STAR, moved(TEE_STAR_DRAWN, 4, 7, 1))

    def test_twice_round(self):
        plan = plan_of(BOWL)
        self.assertEqual(rooms(plan)[0], (0, 1, 3, 4, 5))
        self.assertIs(fault(plan, BOWL_DRAWN), None)
        # Left at each place of room 0, but twice round: a star of five points.
        made = drawn((0, 0), (4, 3), (0, 6), (-1, 3), (3, 0), (Fraction(3, 2), 5))
        rim = [numbers(made)[place] for place in rooms(plan)[0]]
        self.assertTrue(all(cross(rim[at - 2], rim[at - 1], rim[at]) > 0 for at in range(5)))
        self.assertFault(("room", 0), BOWL, made)

    def test_rooms_on_the_wrong_side(self):
        # Both ends of a wall may go along the frame, but not past each other.
        plan = plan_of(crossed_fan(4))
        made = drawing(plan, plain_frame(3), even_weights(plan))
        low, high = plan.walls[-1]
        self.assertEqual((low, high), (7, 8))
        turned_about = made[:7] + (made[8], made[7])
        self.assertEqual(fault(plan, turned_about)[0], "wall")

    def test_first_of_several(self):
        wrong_frame = moved(TEE_DRAWN, 2, 3, 3)
        self.assertFault(("frame",), TEE, moved(wrong_frame, 4, 2, 1))
        self.assertFault(("form",), TEE, wrong_frame[:7] + (None,))
        self.assertFault(("form",), STAR, STAR_DRAWN[2::-1])
        wrong_room = moved(STAR_DRAWN, 3, -1, -1)
        self.assertFault(("frame",), STAR, moved(wrong_room, 0, 20, 20))
        self.assertFault(("wall", 1), TEE_STAR, moved(TEE_STAR_DRAWN, 6, 5, 3))

    def test_plans_with_narrow_lots(self):
        for sketched in (HANGING, LENS):
            self.assertFalse(is_built(plan_of(sketched), of_sketch(sketched)))
        self.assertFault(("room", 0), HANGING, of_sketch(HANGING))
        self.assertFault(("wall", 5), LENS, of_sketch(LENS))

    def test_places_moved_off_their_walls(self):
        # A place on a wall is moved off it; other walls that end there may be bent by that, too.
        for plan, made in BUILT:
            points = numbers(made)
            for wall in plan.walls:
                for place in wall[1:-1]:
                    one, other, (right, up) = points[wall[0]], points[wall[-1]], points[place]
                    aside = (right + (other[1] - one[1]) * STEP, up - (other[0] - one[0]) * STEP)
                    bent = [number for number, own in enumerate(plan.walls) if len(own) > 2 and place in own]
                    self.assertEqual(fault(plan, moved(made, place, *aside)), ("wall", bent[0]))


class Areas(unittest.TestCase):
    def test_spelled_out(self):
        self.assertEqual(areas(plan_of(TEE), TEE_DRAWN), ((12, 1), (12, 1), (12, 1)))
        self.assertEqual(areas(plan_of(SPLIT), SPLIT_DRAWN), ((12, 1), (24, 1)))
        self.assertEqual(areas(plan_of(STAR), STAR_DRAWN), ((18, 1), (18, 1), (36, 1)))
        self.assertEqual(areas(plan_of(bare(3)), plain_frame(3)), ((1, 1),))
        self.assertEqual(areas(plan_of(bare(3)), drawn((0, 0), (1, 0), (Fraction(1, 3), Fraction(1, 7)))), ((1, 14),))
        self.assertEqual(areas(plan_of(bare(3)), drawn((0, 0), (HALF, 0), (0, Fraction(2, 3)))), ((1, 6),))

    def test_each_and_together(self):
        for plan, made in BUILT:
            points = numbers(made)
            found = areas(plan, made)
            self.assertEqual(found, tuple(pair(area([points[place] for place in rim])) for rim in rooms(plan)))
            self.assertEqual(sum(Fraction(*one) for one in found), area(points[:plan.sides]))
            self.assertTrue(all(top > 0 for top, _ in found))

    def test_no_drawing(self):
        for thing in junk() + [(), list(TEE_DRAWN), TEE_DRAWN[::-1], moved(TEE_DRAWN, 4, 2, 1)]:
            self.assertRaises(NoDrawing, areas, plan_of(TEE), thing)


class Hit(unittest.TestCase):
    def test_spelled_out(self):
        plan = plan_of(TEE)
        for right, up, wanted in [(0, 0, ("place", 0)), (2, 3, ("place", 6)), (6, 3, ("place", 7)), (1, 0, ("wall", 0)),
                                  (5, 0, ("wall", 0)), (6, 1, ("wall", 1)), (0, 5, ("wall", 3)), (2, 1, ("wall", 4)),
                                  (2, 4, ("wall", 4)), (4, 3, ("wall", 5)), (1, 3, ("room", 0)), (5, 1, ("room", 1)),
                                  (5, 5, ("room", 2)), (-1, 0, ("out",)), (7, 0, ("out",)), (7, 3, ("out",)),
                                  (2, -1, ("out",)), (2, 7, ("out",)), (6, 7, ("out",)), (3, 10 ** 29, ("out",))]:
            self.assertEqual(hit(plan, TEE_DRAWN, point(right, up)), wanted)

    def test_beside_a_wall(self):
        plan = plan_of(TEE)
        for right, up, wanted in [(2 - STEP, 1, ("room", 0)), (2 + STEP, 1, ("room", 1)), (2 + STEP, 5, ("room", 2)),
                                  (4, 3 - STEP, ("room", 1)), (4, 3 + STEP, ("room", 2)), (2 - STEP, 3, ("room", 0)),
                                  (2 + STEP, 3, ("wall", 5)), (1, STEP, ("room", 0)), (1, -STEP, ("out",)),
                                  (6 - STEP, 1, ("room", 1)), (6 + STEP, 3, ("out",)), (STEP, 0, ("wall", 0)),
                                  (-STEP, 0, ("out",)), (STEP, STEP, ("room", 0)), (6 - STEP, 6, ("wall", 2))]:
            self.assertEqual(hit(plan, TEE_DRAWN, point(right, up)), wanted)

    def test_places(self):
        for plan, made in BUILT:
            for place in range(many_places(plan)):
                self.assertEqual(hit(plan, made, made[place]), ("place", place))

    def test_walls(self):
        for plan, made in BUILT[::2]:
            points = numbers(made)
            for number, wall in enumerate(plan.walls):
                for one, other in zip(wall, wall[1:]):
                    spot = [(2 * points[one][axis] + points[other][axis]) / 3 for axis in (0, 1)]
                    self.assertEqual(hit(plan, made, point(*spot)), ("wall", number))

    def test_beyond_the_ends_of_walls(self):
        for plan, made in BUILT[::5]:
            points = numbers(made)
            for wall in plan.walls[plan.sides:]:
                one, other = points[wall[0]], points[wall[-1]]
                for far in (Fraction(-1, 99), Fraction(100, 99), -9, 10):
                    spot = tuple(one[axis] + far * (other[axis] - one[axis]) for axis in (0, 1))
                    self.assertEqual(hit(plan, made, point(*spot)), found_at(plan, points, spot))

    def test_beside_walls(self):
        for plan, made in BUILT[::2]:
            points = numbers(made)
            beside = {step: number for number, rim in enumerate(rooms(plan))
                      for step in zip(rim, rim[1:] + rim[:1])}
            for wall in plan.walls:
                for one, other in list(zip(wall, wall[1:])) + list(zip(wall[1:], wall)):
                    (right, up), (far_right, far_up) = points[one], points[other]
                    spot = ((right + far_right) / 2 + (up - far_up) * STEP,
                            (up + far_up) / 2 + (far_right - right) * STEP)
                    wanted = ("room", beside[one, other]) if (one, other) in beside else ("out",)
                    self.assertEqual(hit(plan, made, point(*spot)), wanted)

    def test_rooms(self):
        for plan, made in BUILT:
            points = numbers(made)
            for number, rim in enumerate(rooms(plan)):
                middle = [sum(points[place][axis] for place in rim) / len(rim) for axis in (0, 1)]
                self.assertEqual(hit(plan, made, point(*middle)), ("room", number))

    def test_anywhere(self):
        chance = random.Random(9)
        for plan, made in BUILT[::3]:
            points = numbers(made)
            for _ in range(12):
                one, other = chance.choice(points), chance.choice(points)
                part = Fraction(chance.randint(-2, 8), 6)
                spot = tuple(one[axis] + part * (other[axis] - one[axis]) for axis in (0, 1))
                self.assertEqual(hit(plan, made, point(*spot)), found_at(plan, points, spot))

    def test_no_drawing(self):
        for thing in junk() + [(), list(TEE_DRAWN), TEE_DRAWN[::-1], SPLIT_DRAWN]:
            self.assertRaises(NoDrawing, hit, plan_of(TEE), thing, point(0, 0))

    def test_no_point(self):
        for thing in junk() + [(0, 0), ((0, 1),), ((0, 1),) * 3, [(0, 1), (0, 1)], ((0, 2), (0, 1)), ((0, 1), (2, 2)),
                               ((0, 1), (0, -1)), ((0, 1), (1, 0)), ((0, 1), (0, True)), ((False, 1), (0, 1)),
                               ([0, 1], (0, 1)), ((0, 1), None)]:
            self.assertRaises(NoPoint, hit, plan_of(TEE), TEE_DRAWN, thing)

    def test_order_of_the_errors(self):
        self.assertRaises(NoDrawing, hit, plan_of(TEE), TEE_DRAWN[::-1], None)
        self.assertRaises(NoDrawing, hit, plan_of(TEE), None, (0, 0))


class Pictures(unittest.TestCase):
    def test_spelled_out(self):
        tee, split = plan_of(TEE), plan_of(SPLIT)
        self.assertEqual(picture(tee, TEE_DRAWN, 6, 4), ["aacccc", "aacccc", "aabbbb", "aabbbb"])
        self.assertEqual(picture(tee, TEE_DRAWN, 3, 3), ["acc", "a##", "abb"])
        self.assertEqual(picture(tee, TEE_DRAWN, 9, 1), ["aaa######"])
        self.assertEqual(picture(split, SPLIT_DRAWN, 1, 1), ["b"])
        self.assertEqual(picture(split, SPLIT_DRAWN, 1, 3), ["b", "b", "b"])
        middle = moved(moved(SPLIT_DRAWN, 4, 3, 0), 5, 3, 6)
        self.assertEqual(picture(split, middle, 1, 2), ["#", "#"])
        self.assertEqual(picture(split, middle, 5, 2), ["aa#bb", "aa#bb"])

    def test_out_of_the_frame(self):
        triangle = drawn((0, 0), (4, 0), (0, 4))
        self.assertEqual(picture(plan_of(bare(3)), triangle, 4, 4), ["#...", "a#..", "aa#.", "aaa#"])
        self.assertEqual(picture(plan_of(bare(3)), triangle, 2, 4), ["..", "a.", "a.", "aa"])
        self.assertEqual(picture(plan_of(bare(3)), triangle, 1, 1), ["#"])
        self.assertEqual(picture(plan_of(bare(3)), drawn((0, 0), (4, 1), (0, 4)), 1, 1), ["a"])
        diamond = drawn((2, 0), (4, 2), (2, 4), (0, 2))
        self.assertEqual(picture(plan_of(bare(4)), diamond, 4, 4), [".##.", "#aa#", "#aa#", ".##."])
        self.assertEqual(picture(plan_of(bare(4)), diamond, 3, 3), [".a.", "aaa", ".a."])
        self.assertEqual(picture(plan_of(bare(4)), diamond, 2, 1), ["aa"])

    def test_places(self):
        star = plan_of(STAR)
        self.assertEqual(picture(star, moved(STAR_DRAWN, 3, 6, 2), 1, 3), [".", "#", "#"])
        self.assertEqual(picture(star, drawn((0, 0), (4, 1), (1, 4), (2, 2)), 1, 1), ["#"])

    def test_sizes(self):
        plan = plan_of(TEE)
        for wide, high in ((1, 1), (1, 60), (60, 1), (60, 60), (2, 7), (59, 3)):
            lines = picture(plan, TEE_DRAWN, wide, high)
            self.assertIs(type(lines), list)
            self.assertEqual([len(line) for line in lines], [wide] * high)
            self.assertEqual({type(line) for line in lines}, {str})

    def test_small_ones_cell_by_cell(self):
        chance = random.Random(10)
        for plan, made in BUILT:
            points = numbers(made)
            wide, high = chance.randint(1, 7), chance.randint(1, 7)
            self.assertEqual(picture(plan, made, wide, high),
                             ["".join(sign_at(plan, points, middle_of(points, wide, high, line, column))
                                      for column in range(wide)) for line in range(high)])

    def test_sixty_by_sixty(self):
        chance = random.Random(11)
        for plan, made in BUILT[::3]:
            points = numbers(made)
            lines = picture(plan, made, 60, 60)
            for _ in range(40):
                line, column = chance.randrange(60), chance.randrange(60)
                self.assertEqual(lines[line][column],
                                 sign_at(plan, points, middle_of(points, 60, 60, line, column)))

    def test_cells_right_on_lines(self):
        # Places at whole numbers, so that many walls go through middles of cells.
        many = 0
        for sketched, wide, high in [(TEE, 9, 5), (TEE, 3, 3), (SPLIT, 3, 7), (OCTAGON, 5, 5), (OCTAGON, 6, 6),
                                     (OCTAGON, 15, 7), (fan(5), 6, 6), (fan(5), 9, 9), (wheel(3), 12, 12),
                                     (wheel(3), 9, 5), (bare(5), 8, 16), (bare(8), 7, 49), (bare(4), 3, 9)]:
            plan, made = plan_of(sketched), of_sketch(sketched)
            points = numbers(made)
            lines = picture(plan, made, wide, high)
            for line in range(high):
                for column in range(wide):
                    sign = sign_at(plan, points, middle_of(points, wide, high, line, column))
                    self.assertEqual(lines[line][column], sign)
                    many += sign == "#"
        self.assertTrue(many > 80)

    def test_as_many_rooms_as_can_be(self):
        plan = plan_of(fan(37))
        self.assertEqual(len(rooms(plan)), 38)
        made = of_sketch(fan(37))
        signs = {sign for line in picture(plan, made, 60, 60) for sign in line}
        self.assertEqual(signs, set(LETTERS[:38]) | {"#", "."})
        for number, rim in enumerate(rooms(plan)):
            middle = [sum(numbers(made)[place][axis] for place in rim) / len(rim) for axis in (0, 1)]
            self.assertEqual(hit(plan, made, point(*middle)), ("room", number))
        # Room 26 is the first one with a capital letter.
        points = numbers(made)
        lines = picture(plan, made, 60, 60)
        for line in range(0, 60, 7):
            for column in range(0, 60, 5):
                self.assertEqual(lines[line][column], sign_at(plan, points, middle_of(points, 60, 60, line, column)))

    def test_new_lists(self):
        one, other = [picture(plan_of(TEE), TEE_DRAWN, 3, 2) for _ in range(2)]
        self.assertEqual(one, other)
        one.clear()
        self.assertEqual(picture(plan_of(TEE), TEE_DRAWN, 3, 2), other)

    def test_no_drawing(self):
        for thing in junk() + [(), list(TEE_DRAWN), TEE_DRAWN[::-1], SPLIT_DRAWN]:
            self.assertRaises(NoDrawing, picture, plan_of(TEE), thing, 5, 5)

    def test_no_number(self):
        for thing in junk() + [0, -1, 61, 10 ** 29, True, False, (5,), [5], "5", None]:
            self.assertRaises(NoNumber, picture, plan_of(TEE), TEE_DRAWN, thing, 5)
            self.assertRaises(NoNumber, picture, plan_of(TEE), TEE_DRAWN, 5, thing)

    def test_order_of_the_errors(self):
        self.assertRaises(NoDrawing, picture, plan_of(TEE), None, 0, 0)
        self.assertRaises(NoDrawing, picture, plan_of(TEE), TEE_DRAWN[::-1], None, "a")
        self.assertRaises(NoNumber, picture, plan_of(TEE), TEE_DRAWN, 0, None)


class Handed(unittest.TestCase):
    def test_deep_things_stay_as_they_were(self):
        plan = plan_of(TEE)
        for kind in (tuple, list, dict):
            thing, inner = deep(kind), deep(kind, 29)
            kept = copy.deepcopy(thing)
            self.assertEqual(fault(plan, thing), ("form",))
            self.assertEqual(fault(plan, TEE_DRAWN[:7] + (inner,)), ("form",))
            self.assertRaises(NoDrawing, areas, plan, thing)
            self.assertRaises(NoPoint, hit, plan, TEE_DRAWN, thing)
            self.assertRaises(NoNumber, picture, plan, TEE_DRAWN, thing, thing)
            self.assertEqual(thing, kept)

    def test_kinds_of_values(self):
        plan = plan_of(TEE)
        self.assertEqual(hit(plan, TEE_DRAWN, point(0, 0)), ("place", 0))
        for found in (hit(plan, TEE_DRAWN, point(9, 9)), fault(plan, None), areas(plan, TEE_DRAWN)):
            self.assertIs(type(found), tuple)
        self.assertEqual(plan, plan_of(TEE))

    def test_the_same_for_plans_begun_elsewhere(self):
        plan = plan_of(PINWHEEL)
        made = drawing(plan, plain_frame(4), even_weights(plan))
        other = drawing(plan, turned(plain_frame(4), 1), even_weights(plan))
        self.assertIs(fault(plan, made), None)
        self.assertIs(fault(plan, other), None)
        self.assertEqual(areas(plan, made), areas(plan_of(PINWHEEL), made))


if __name__ == "__main__":
    unittest.main()
