"""Promise 7: places, ties, rooms and walls of plans, mirrored and renamed plans, and plans that are alike."""

import itertools
import unittest

from sketches import (HANGING, HANGING_BY_A_CUT, HANGING_STRAIGHT, OCTAGON, PINWHEEL, SKETCHES, SPLIT, STAR, TEE,
                      TWO_HANGING, all_plans, bare, junk, plan_of, sketch, turned, wheel)
from threeexits.errors import NoNames, NoPlace
from threeexits.places import alikes, lies_on, many_places, mirrored, renamed, rooms, ties, walls_at


def doubled_area(points, rim):
    """Twice the area around which a rim goes to the left."""
    return sum(points[one][0] * points[other][1] - points[other][0] * points[one][1]
               for one, other in zip(rim, rim[1:] + rim[:1]))


def steps(rim):
    return list(zip(rim, rim[1:] + rim[:1]))


def all_names(plan):
    """All tuples that renamed takes."""
    sides, many = plan.sides, many_places(plan)
    for by in range(sides):
        corners = tuple((corner + by) % sides for corner in range(sides))
        for others in itertools.permutations(range(sides, many)):
            yield corners + others


class Counted(unittest.TestCase):
    def test_many_places(self):
        self.assertEqual(many_places(plan_of(bare(3))), 3)
        self.assertEqual(many_places(plan_of(bare(8))), 8)
        self.assertEqual(many_places(plan_of(PINWHEEL)), 12)
        for name, sketched in SKETCHES.items():
            self.assertEqual(many_places(plan_of(sketched)), len(sketched[1]), name)

    def test_ties(self):
        self.assertEqual(ties(plan_of(bare(3))), ((0, 1), (0, 2), (1, 2)))
        self.assertEqual(ties(plan_of(SPLIT)), ((0, 3), (0, 4), (1, 2), (1, 4), (2, 5), (3, 5), (4, 5)))
        self.assertEqual(ties(plan_of(HANGING)), ((0, 1), (0, 2), (0, 3), (1, 2), (3, 4), (3, 5), (3, 6),
                                                  (4, 5), (4, 6), (5, 6)))
        self.assertEqual(ties(plan_of(HANGING)), ties(plan_of(HANGING_STRAIGHT)))

    def test_ties_are_those_of_the_rounds(self):
        for name, plan in all_plans():
            pairs = {(min(place, near), max(place, near)) for place, ring in enumerate(plan.rounds) for near in ring}
            self.assertEqual(ties(plan), tuple(sorted(pairs)), name)
            self.assertEqual({type(tie) for tie in ties(plan)}, {tuple})


class Rooms(unittest.TestCase):
    def test_bare(self):
        for sides in range(3, 9):
            self.assertEqual(rooms(plan_of(bare(sides))), (tuple(range(sides)),))

    def test_ordinary(self):
        self.assertEqual(rooms(plan_of(SPLIT)), ((0, 4, 5, 3), (1, 2, 5, 4)))
        self.assertEqual(rooms(plan_of(TEE)), ((0, 4, 6, 5, 3), (1, 7, 6, 4), (2, 5, 6, 7)))
        self.assertEqual(rooms(plan_of(STAR)), ((0, 1, 3), (0, 3, 2), (1, 2, 3)))
        self.assertEqual(rooms(plan_of(PINWHEEL)), ((0, 8, 4, 5, 9), (1, 11, 7, 4, 8), (2, 10, 6, 7, 11),
                                                    (3, 9, 5, 6, 10), (4, 7, 6, 5)))
        self.assertEqual(rooms(plan_of(OCTAGON)), ((0, 1, 2, 8), (0, 8, 6, 7), (2, 3, 4, 8), (4, 5, 6, 8)))

    def test_rims_that_come_to_a_place_twice(self):
        expected = ((0, 1, 2, 0, 3, 5, 4, 3), (3, 4, 6), (3, 6, 5), (4, 5, 6))
        self.assertEqual(rooms(plan_of(HANGING)), expected)
        self.assertEqual(rooms(plan_of(HANGING_STRAIGHT)), expected)
        self.assertEqual(rooms(plan_of(TWO_HANGING))[0], (0, 1, 2, 0, 7, 8, 9, 7, 0, 3, 5, 4, 3))

    def test_least_beginning_where_the_least_place_comes_twice(self):
        self.assertEqual(rooms(plan_of(HANGING_BY_A_CUT)),
                         ((0, 3, 5, 4, 3, 0, 7, 8, 2), (1, 8, 7), (3, 4, 6), (3, 6, 5), (4, 5, 6)))
        names = (1, 2, 0, 6, 5, 4, 3, 8, 7)
        self.assertEqual(rooms(renamed(plan_of(HANGING_BY_A_CUT), names)),
                         ((0, 1, 6, 4, 5, 6, 1, 8, 7), (2, 7, 8), (3, 4, 6), (3, 5, 4), (3, 6, 5)))

    def test_each_is_left_of_its_rim_and_all_fill_the_frame(self):
        for name, sketched in SKETCHES.items():
            sides, _, rounds = sketched[0]
            points = sketched[1]
            plan = plan_of(sketched)
            with self.subTest(name):
                found = rooms(plan)
                self.assertEqual(len(found), len(ties(plan)) - many_places(plan) + 1)
                self.assertEqual(found, tuple(sorted(found)))
                areas = [doubled_area(points, rim) for rim in found]
                self.assertTrue(all(area > 0 for area in areas))
                self.assertAlmostEqual(sum(areas), doubled_area(points, tuple(range(sides))))
                for rim in found:
                    self.assertEqual(rim, min(turned(rim, by) for by in range(len(rim))))

    def test_they_walk_all_ties_both_ways_but_the_frame_only_once(self):
        for name, plan in all_plans():
            walked = [step for rim in rooms(plan) for step in steps(rim)]
            frame = [step for wall in plan.walls[:plan.sides] for step in zip(wall, wall[1:])]
            wanted = [way for one, other in ties(plan) for way in ((one, other), (other, one))
                      if way[::-1] not in frame]
            self.assertEqual(sorted(walked), sorted(wanted), name)


class Walls(unittest.TestCase):
    def test_lies_on(self):
        tee = plan_of(TEE)
        self.assertEqual([lies_on(tee, place) for place in range(8)], [None, None, None, None, 0, 2, 4, 1])
        star = plan_of(STAR)
        self.assertEqual([lies_on(star, place) for place in range(4)], [None] * 4)
        straight = plan_of(HANGING_STRAIGHT)
        self.assertEqual(straight.walls[3], (0, 3, 6))
        self.assertEqual([lies_on(straight, place) for place in range(7)], [None, None, None, 3, None, None, None])
        self.assertEqual([lies_on(plan_of(bare(5)), place) for place in range(5)], [None] * 5)

    def test_walls_at(self):
        tee = plan_of(TEE)
        self.assertEqual([walls_at(tee, place) for place in range(8)],
                         [(0, 3), (0, 1), (1, 2), (2, 3), (0, 4), (2, 4), (4, 5), (1, 5)])
        self.assertEqual(walls_at(plan_of(STAR), 3), (3, 4, 5))
        self.assertEqual(walls_at(plan_of(STAR), 0), (0, 2, 3))
        self.assertEqual([walls_at(plan_of(bare(4)), place) for place in range(4)], [(0, 3), (0, 1), (1, 2), (2, 3)])

    def test_the_one_lies_among_the_others(self):
        for name, plan in all_plans():
            for place in range(many_places(plan)):
                numbers = walls_at(plan, place)
                self.assertEqual(numbers, tuple(k for k, wall in enumerate(plan.walls) if place in wall), name)
                inner = [k for k in numbers if place not in (plan.walls[k][0], plan.walls[k][-1])]
                self.assertEqual(inner, [k for k in [lies_on(plan, place)] if k is not None], name)

    def test_places_that_are_none(self):
        for sketched in (bare(3), TEE, HANGING):
            plan = plan_of(sketched)
            for place in junk() + [many_places(plan), many_places(plan) + 1, -many_places(plan), (0,), [0], "0"]:
                self.assertRaises(NoPlace, lies_on, plan, place)
                self.assertRaises(NoPlace, walls_at, plan, place)

    def test_first_and_last_place(self):
        plan = plan_of(TEE)
        self.assertEqual((walls_at(plan, 0), walls_at(plan, 7)), ((0, 3), (1, 5)))
        self.assertIs(lies_on(plan, 0), None)
        self.assertEqual(lies_on(plan, 7), 1)


class Mirrored(unittest.TestCase):
    def test_bare(self):
        for sides in range(3, 9):
            self.assertEqual(mirrored(plan_of(bare(sides))), plan_of(bare(sides)))

    def test_spelled_out(self):
        plan = mirrored(plan_of(TEE))
        self.assertEqual(plan.walls, ((0, 1), (1, 5, 2), (2, 7, 3), (3, 4, 0), (4, 6, 5), (6, 7)))
        self.assertEqual(plan.rounds, ((1, 4), (0, 5), (5, 7), (4, 7), (0, 6, 3), (1, 2, 6), (4, 5, 7), (2, 3, 6)))

    def test_it_is_the_sketch_in_a_mirror(self):
        for name, sketched in SKETCHES.items():
            (sides, walls, _), points = sketched
            names = [(sides - place) % sides if place < sides else place for place in range(len(points))]
            flipped = list(points)
            for place, (right, up) in enumerate(points):
                flipped[names[place]] = (-right, up)
            moved = [tuple(names[place] for place in wall) for wall in walls]
            frame = [wall[::-1] for wall in moved[:sides]][::-1]
            self.assertEqual(mirrored(plan_of(sketched)), plan_of(sketch(sides, flipped, frame + moved[sides:])), name)

    def test_twice(self):
        for name, plan in all_plans():
            self.assertEqual(mirrored(mirrored(plan)), plan, name)

    def test_some_are_not_alike_in_the_mirror(self):
        pinwheel = plan_of(PINWHEEL)
        self.assertEqual(alikes(pinwheel, mirrored(pinwheel)), ())
        self.assertEqual(len(alikes(plan_of(TEE), mirrored(plan_of(TEE)))), 1)

    def test_the_plan_stays_as_it_was(self):
        plan = plan_of(TEE)
        mirrored(plan)
        renamed(plan, (1, 2, 3, 0, 4, 5, 6, 7))
        self.assertEqual(plan, plan_of(TEE))


class Renamed(unittest.TestCase):
    def test_same_names(self):
        for name, plan in all_plans():
            self.assertEqual(renamed(plan, tuple(range(many_places(plan)))), plan, name)

    def test_spelled_out(self):
        plan = renamed(plan_of(SPLIT), (1, 2, 3, 0, 5, 4))
        self.assertEqual(plan.walls, ((0, 1), (1, 5, 2), (2, 3), (3, 4, 0), (4, 5)))
        self.assertEqual(plan.rounds, ((1, 4), (0, 5), (3, 5), (2, 4), (0, 5, 3), (1, 2, 4)))

    def test_it_is_the_sketch_with_other_names(self):
        for sketched in (SPLIT, TEE, PINWHEEL, HANGING_BY_A_CUT, OCTAGON, wheel(3)):
            (sides, walls, _), points = sketched
            many = len(points)
            for by in range(sides):
                names = tuple([(corner + by) % sides for corner in range(sides)] + list(range(sides, many))[::-1])
                moved = [tuple(names[place] for place in wall) for wall in walls]
                frame = turned(moved[:sides], -by)
                flipped = [points[names.index(place)] for place in range(many)]
                self.assertEqual(renamed(plan_of(sketched), names),
                                 plan_of(sketch(sides, flipped, frame + moved[sides:])))

    def test_there_and_back(self):
        for name, plan in all_plans():
            sides, many = plan.sides, many_places(plan)
            for by in range(sides):
                others = turned(list(range(sides, many)), by) if many > sides else []
                names = tuple([(corner + by) % sides for corner in range(sides)] + others)
                back = tuple(names.index(place) for place in range(many))
                self.assertEqual(renamed(renamed(plan, names), back), plan, name)
                self.assertEqual(renamed(renamed(plan, back), names), plan, name)

    def test_no_names(self):
        plan = plan_of(SPLIT)
        good = (1, 2, 3, 0, 5, 4)
        for names in junk() + [(), list(good), good[:5], good + (6,), good + (0,), (1, 2, 3, 0, 5, 5),
                               (1, 2, 3, 0, 5, 6), (1, 2, 3, 0, 5, -1), (2, 3, 4, 5, 0, 1), (4, 5, 0, 1, 2, 3),
                               (0, 3, 2, 1, 4, 5), (1, 0, 2, 3, 4, 5), (0, 1, 2, 4, 3, 5), (4, 1, 2, 3, 0, 5),
                               (1, 2, 3, False, 5, 4), (True, 2, 3, 0, 5, 4), (1, 2, 3, 0, 5, "4"),
                               (1, 2, 3, 0, 5, [4]), (1, 2, 3, 0, 5, None)]:
            self.assertRaises(NoNames, renamed, plan, names)
        self.assertNotEqual(renamed(plan, good), None)

    def test_no_names_of_a_bare_plan(self):
        plan = plan_of(bare(3))
        takes = {names for names in itertools.product(range(-1, 4), repeat=3)
                 if self.is_taken(plan, names)}
        self.assertEqual(takes, {(0, 1, 2), (1, 2, 0), (2, 0, 1)})

    def is_taken(self, plan, names):
        try:
            return renamed(plan, names) is not None
        except NoNames:
            return False


class Alikes(unittest.TestCase):
    def test_a_plan_and_itself(self):
        for name, plan in all_plans():
            found = alikes(plan, plan)
            self.assertIn(tuple(range(many_places(plan))), found, name)
            self.assertLessEqual(len(found), plan.sides)
            self.assertEqual(found, tuple(sorted(set(found))))

    def test_spelled_out(self):
        self.assertEqual(alikes(plan_of(bare(3)), plan_of(bare(3))), ((0, 1, 2), (1, 2, 0), (2, 0, 1)))
        self.assertEqual(alikes(plan_of(SPLIT), plan_of(SPLIT)), ((0, 1, 2, 3, 4, 5), (2, 3, 0, 1, 5, 4)))
        self.assertEqual(alikes(plan_of(STAR), plan_of(STAR)), ((0, 1, 2, 3), (1, 2, 0, 3), (2, 0, 1, 3)))
        self.assertEqual(alikes(plan_of(TEE), plan_of(TEE)), (tuple(range(8)),))
        self.assertEqual(alikes(plan_of(PINWHEEL), plan_of(PINWHEEL)),
                         ((0, 1, 2, 3, 4, 5, 6, 7, 8, 9, 10, 11), (1, 2, 3, 0, 7, 4, 5, 6, 11, 8, 9, 10),
                          (2, 3, 0, 1, 6, 7, 4, 5, 10, 11, 8, 9), (3, 0, 1, 2, 5, 6, 7, 4, 9, 10, 11, 8)))

    def test_all_of_them_and_no_other(self):
        few = [plan for _, plan in all_plans() if many_places(plan) - plan.sides <= 4]
        few += [mirrored(plan) for plan in few]
        self.assertGreater(len(few), 20)
        for one in few:
            for other in few:
                if many_places(one) == many_places(other):
                    wanted = [names for names in all_names(one)
                              if one.sides == other.sides and renamed(one, names) == other]
                    self.assertEqual(alikes(one, other), tuple(sorted(wanted)))

    def test_from_the_one_to_the_other(self):
        plan = plan_of(SPLIT)
        names = (1, 2, 3, 0, 5, 4)
        self.assertEqual(alikes(plan, renamed(plan, names)), ((1, 2, 3, 0, 5, 4), (3, 0, 1, 2, 4, 5)))
        for name, one in all_plans():
            by = (one.sides - 1, *range(one.sides - 1), *range(many_places(one) - 1, one.sides - 1, -1))
            other = renamed(one, by)
            self.assertIn(by, alikes(one, other), name)
            for found in alikes(one, other):
                self.assertEqual(renamed(one, found), other)

    def test_not_alike(self):
        plans = [plan for _, plan in all_plans()]
        for one, other in itertools.permutations(plans, 2):
            self.assertEqual(alikes(one, other), ())

    def test_same_web_but_other_walls(self):
        self.assertEqual(alikes(plan_of(HANGING), plan_of(HANGING_STRAIGHT)), ())
        self.assertEqual(alikes(plan_of(HANGING_STRAIGHT), plan_of(HANGING)), ())

    def test_something_hangs_elsewhere(self):
        sides, walls, _ = HANGING[0]
        at_corner_1 = tuple(tuple({0: 1, 1: 2, 2: 0}.get(place, place) for place in wall) for wall in walls)
        points = [(0, 12), (0, 0), (12, 0)] + HANGING[1][3:]
        moved = plan_of(sketch(sides, points, turned(at_corner_1[:3], -1) + at_corner_1[3:]))
        self.assertEqual(alikes(plan_of(HANGING), moved), ((1, 2, 0, 3, 4, 5, 6),))


if __name__ == "__main__":
    unittest.main()
