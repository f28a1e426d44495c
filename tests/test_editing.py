"""Promise 12, and of 2 to 5 what they say of editing: walls put, struck, cut and joined."""

import copy
import random
import unittest

from edits import (cut_by_hand, edited, inner_places, no_spots_of, put_by_rims, spots_of, stars_of, strike_by_rims,
                   strokes_of)
from samples import altered, grown, point, web_plan
from sketches import (BIGON, BOWL, BULGE, CROSSED_RING, HANGING, HANGING_BY_A_CUT, HANGING_IN_A_FAN,
                      HANGING_STRAIGHT, LENS, OCTAGON, PENTAGON, RING, SPLIT, STAR, TEE, TEE_STAR, TWICE, TWO_HANGING,
                      all_plans, bare, crossed_fan, deep, fan, junk, plan_of)
from threeexits.built import areas, fault, is_built
from threeexits.drawing import drawing, even_weights, plain_frame
from threeexits.editing import cut, join, put, strike
from threeexits.errors import (BadPlan, Full, Narrow, NoPlace, NoRoom, NoSpot, NotCut, NotJoined, NoWall, SameWall,
                               StrokeError)
from threeexits.lots import can_build, is_narrow, narrow
from threeexits.moves import weights_of
from threeexits.places import alikes, lies_on, many_places, renamed, rooms, walls_at
from threeexits.plans import Plan


def some_plans(many, most=14, seed=12):
    """Plans of all kinds, not too large."""
    chance = random.Random(seed)
    found = [plan for _, plan in all_plans() if len(plan.walls) <= most]
    for _ in range(many):
        found.append(web_plan(chance, most))
        found.append(grown(chance, chance.randint(3, 8), chance.randint(4, most))[0])
        found.append(altered(chance, found[-1], 2, 1))
    return found


def spots_by_chance(chance, rim, many):
    """Pairs of spots of the room with this rim, so many at most."""
    spots = spots_of(rim)
    return [(chance.choice(spots), chance.choice(spots)) for _ in range(many)]


class Put(unittest.TestCase):
    def test_from_place_to_place(self):
        split = put(plan_of(bare(4)), 0, ("at", 0), ("at", 2))
        self.assertEqual(split.walls, ((0, 1), (1, 2), (2, 3), (3, 0), (0, 2)))
        self.assertEqual(split.rounds, ((1, 2, 3), (0, 2), (0, 1, 3), (0, 2)))

    def test_from_place_to_new_place(self):
        plan = put(plan_of(bare(3)), 0, ("at", 0), ("in", 1, 2))
        self.assertEqual(plan.walls, ((0, 1), (1, 3, 2), (2, 0), (0, 3)))
        self.assertEqual(plan.rounds, ((1, 3, 2), (0, 3), (0, 3), (0, 1, 2)))
        self.assertEqual(plan, put(plan_of(bare(3)), 0, ("in", 1, 2), ("at", 0)))

    def test_from_new_place_to_new_place(self):
        plan = put(plan_of(bare(4)), 0, ("in", 0, 1), ("in", 2, 3))
        self.assertEqual(plan, plan_of(SPLIT))
        other = put(plan_of(bare(4)), 0, ("in", 2, 3), ("in", 0, 1))
        self.assertEqual(other.walls, ((0, 5, 1), (1, 2), (2, 4, 3), (3, 0), (4, 5)))
        self.assertEqual(alikes(plan, other)[0], (0, 1, 2, 3, 5, 4))

    def test_a_tee(self):
        self.assertEqual(rooms(plan_of(SPLIT)), ((0, 4, 5, 3), (1, 2, 5, 4)))
        # Walls and places get their numbers anew in the order in which they come.
        self.assertEqual(put(plan_of(SPLIT), 1, ("in", 5, 4), ("in", 1, 2)), plan_of(TEE))

    def test_new_places_get_the_next_numbers(self):
        chance = random.Random(1)
        for plan in some_plans(5):
            many = many_places(plan)
            for room, rim in enumerate(rooms(plan)):
                for one, other in spots_by_chance(chance, rim, 6):
                    if not strokes_of(plan, one) & strokes_of(plan, other):
                        found = put(plan, room, one, other)
                        new = [spot for spot in (one, other) if spot[0] == "in"]
                        self.assertEqual(many_places(found), many + len(new))
                        for place, spot in enumerate(new, many):
                            wall = found.walls[lies_on(found, place)]
                            at = wall.index(place)
                            self.assertEqual({wall[at - 1], wall[at + 1]}, {*spot[1:]})
                        ends = tuple(sorted(spot[1] if spot[0] == "at" else many + new.index(spot)
                                            for spot in (one, other)))
                        self.assertIn(ends, found.walls)
                        self.assertEqual(len(found.walls), len(plan.walls) + 1)
                        self.assertEqual(len(rooms(found)), len(rooms(plan)) + 1)

    def test_by_the_rims(self):
        chance = random.Random(2)
        done = 0
        for plan in some_plans(12):
            for room, rim in enumerate(rooms(plan)):
                for one, other in spots_by_chance(chance, rim, 12):
                    if strokes_of(plan, one) & strokes_of(plan, other):
                        self.assertRaises(SameWall, put, plan, room, one, other)
                    else:
                        self.assertEqual(put(plan, room, one, other), put_by_rims(plan, room, one, other))
                        done += 1
        self.assertTrue(done > 500)

    def test_in_a_rim_that_comes_to_a_place_twice(self):
        hanging = plan_of(HANGING)
        room = [0 in rim and 3 in rim for rim in rooms(hanging)].index(True)
        rim = rooms(hanging)[room]
        self.assertEqual((rim.count(0), rim.count(3), rim.count(1), rim.count(4)), (2, 2, 1, 1))
        for spot in (("at", 0), ("at", 3), ("in", 0, 3), ("in", 3, 0)):
            self.assertRaises(NoSpot, put, hanging, room, spot, ("at", 1))
            self.assertRaises(NoSpot, put, hanging, room, ("at", 1), spot)
        for one, other in [(("at", 1), ("at", 4)), (("at", 1), ("in", 4, 3)), (("in", 4, 3), ("in", 1, 2)),
                           (("at", 5), ("in", 0, 1)), (("at", 5), ("at", 1)), (("in", 3, 5), ("in", 0, 1))]:
            if one in spots_of(rim) and other in spots_of(rim):
                self.assertEqual(put(hanging, room, one, other), put_by_rims(hanging, room, one, other))
            else:
                self.assertRaises(NoSpot, put, hanging, room, one, other)
        self.assertEqual(len(spots_of(rim)), 2 + 2 + 3 + 3)
        for one in spots_of(rim):
            for other in spots_of(rim):
                if not strokes_of(hanging, one) & strokes_of(hanging, other):
                    self.assertEqual(put(hanging, room, one, other), put_by_rims(hanging, room, one, other))

    def test_edits_behind_edits(self):
        chance = random.Random(3)
        for many in range(40):
            words = ("put", "cut") if many < 20 else ("put", "put", "cut", "join")
            plan = edited(chance, plan_of(bare(chance.randint(3, 8))), 30, words)
            self.assertEqual(Plan(plan.sides, plan.walls, plan.rounds), plan)
            self.assertTrue(can_build(plan) or "join" in words)

    def test_what_can_be_drawn_stays_so(self):
        chance = random.Random(4)
        drawn = 0
        for plan in some_plans(12, 20, 4):
            if can_build(plan):
                for _ in range(3):
                    room = chance.randrange(len(rooms(plan)))
                    one, other = spots_by_chance(chance, rooms(plan)[room], 1)[0]
                    if not strokes_of(plan, one) & strokes_of(plan, other):
                        plan = put(plan, room, one, other)
                        self.assertIs(can_build(plan), True)
                        self.assertTrue(is_built(plan, drawing(plan, plain_frame(plan.sides), even_weights(plan))))
                        drawn += 1
        self.assertTrue(drawn > 30)

    def test_what_was_edited_is_drawn_or_narrow(self):
        chance = random.Random(9)
        told = {True: 0, False: 0}
        for many in range(40):
            begun = web_plan(chance, 12) if many % 2 else plan_of(bare(3 + many // 2 % 6))
            plan = edited(chance, begun, 25, ("put", "cut", "join"))
            frame = plain_frame(plan.sides)
            told[can_build(plan)] += 1
            if can_build(plan):
                made = drawing(plan, frame, even_weights(plan))
                self.assertIs(fault(plan, made), None)
                self.assertEqual(len(areas(plan, made)), len(rooms(plan)))
                self.assertEqual(drawing(plan, frame, weights_of(plan, made)), made)
            else:
                with self.assertRaises(Narrow) as caught:
                    drawing(plan, frame, even_weights(plan))
                self.assertTrue(is_narrow(plan, caught.exception.lot))
                for place in stars_of(plan) + inner_places(plan):
                    spots = [point(chance.randint(1, 5), chance.randint(1, 9)) for _ in plan.rounds[plan.sides:]]
                    self.assertFalse(is_built(plan, frame + tuple(spots)), place)
        self.assertTrue(min(told.values()) > 5, told)

    def test_a_put_may_heal(self):
        lens = plan_of(LENS)
        self.assertEqual(narrow(lens), (4, 5))
        room = rooms(lens).index((3, 4, 5))
        self.assertRaises(SameWall, put, lens, room, ("at", 3), ("at", 4))
        found = put(lens, room, ("in", 3, 4), ("in", 4, 5))
        self.assertEqual(found, put_by_rims(lens, room, ("in", 3, 4), ("in", 4, 5)))


class PutRefused(unittest.TestCase):
    def test_no_room(self):
        tee = plan_of(TEE)
        for thing in junk() + [3, -1, -3, (0,), [0], "0", True, False]:
            self.assertRaises(NoRoom, put, tee, thing, ("at", 0), ("at", 1))
            self.assertRaises(NoRoom, put, tee, thing, None, None)
        self.assertRaises(NoRoom, put, plan_of(bare(3)), 1, ("at", 0), ("in", 1, 2))

    def test_no_spot(self):
        for sketched in (TEE, SPLIT, HANGING, BIGON, STAR):
            plan = plan_of(sketched)
            for room, rim in enumerate(rooms(plan)):
                good = spots_of(rim)[0]
                for spot in no_spots_of(rim, many_places(plan) + 1):
                    self.assertRaises(NoSpot, put, plan, room, spot, good)
                    self.assertRaises(NoSpot, put, plan, room, good, spot)

    def test_what_is_no_spot_at_all(self):
        split = plan_of(SPLIT)
        rim = rooms(split)[0]
        self.assertEqual(rim, (0, 4, 5, 3))
        others = [("at",), ("at", 0, 4), ("in", 0), ("in", 0, 4, 5), ("in", (0, 4)), ("at", (0,)), ("at", "0"),
                  ("at", None), ("at", True), ("at", False), ("in", False, 4), ("in", 0, "4"), ("in", 0, None),
                  ["at", 0], ["in", 0, 4],
                  ("on", 0), ("AT", 0), ("At", 0), ("", 0), ("on", 0, 4), ("IN", 0, 4), ("in", [0, 4]), (0, "at"),
                  (0,), (0, 4), (0, 0), 0, "at 0", "in 0 4", (), ("at", -4), ("in", -4, 4), ("in", 4, 0), ("in", 0, 0),
                  ("at", 10 ** 29), ("in", 0, -10 ** 29), (("at", 0),), (None, 0), (True, 0), (["at"], 0), {"at": 0},
                  ("in", 0, 5), ("in", 5, 4), ("at", 4, None), (split, 0), ("at", split), ("in", 0, split),
                  ("at", deep(tuple, 28)), ("in", 0, deep(list, 28)), (deep(dict, 28), 4)]
        for thing in junk() + others:
            self.assertRaises(NoSpot, put, split, 0, thing, ("at", 0))
            self.assertRaises(NoSpot, put, split, 0, ("at", 0), thing)
            self.assertRaises(NoSpot, put, split, 0, thing, thing)

    def test_same_stroke(self):
        split = plan_of(SPLIT)
        for one, other in [(("at", 0), ("at", 0)), (("at", 0), ("at", 4)), (("at", 0), ("in", 0, 4)),
                           (("in", 0, 4), ("in", 0, 4)), (("at", 4), ("at", 5)), (("at", 4), ("in", 4, 5)),
                           (("in", 4, 5), ("at", 5)), (("at", 0), ("at", 3)), (("at", 3), ("in", 3, 0))]:
            self.assertRaises(SameWall, put, split, 0, one, other)
            self.assertRaises(SameWall, put, split, 0, other, one)
        # Wall 0 goes on behind place 4, but no spot of it is there in this room.
        self.assertRaises(NoSpot, put, split, 0, ("at", 0), ("at", 1))
        self.assertTrue(put(split, 0, ("at", 0), ("at", 5)))

    def test_same_stroke_where_strokes_end_or_cross(self):
        # At place 8 of the octagon one wall goes on and two others end.
        octagon = plan_of(OCTAGON)
        self.assertEqual(walls_at(octagon, 8), (8, 9, 10))
        for room, rim in enumerate(rooms(octagon)):
            at = rim.index(8)
            ahead, behind = rim[at - 1], rim[(at + 1) % len(rim)]
            for spot in [("at", ahead), ("at", behind), ("in", ahead, 8), ("in", 8, behind)]:
                self.assertRaises(SameWall, put, octagon, room, ("at", 8), spot)
                self.assertRaises(SameWall, put, octagon, room, spot, ("at", 8))
        # Place 3 of the tee's left room lies on wall 4, in which place 7 doesn't stand.
        tee = plan_of(TEE)
        self.assertEqual(rooms(tee)[1], (1, 7, 6, 4))
        self.assertRaises(SameWall, put, tee, 1, ("at", 6), ("in", 6, 4))
        self.assertRaises(SameWall, put, tee, 1, ("at", 6), ("in", 7, 6))
        self.assertTrue(put(tee, 1, ("at", 6), ("in", 1, 7)))
        self.assertTrue(put(tee, 1, ("in", 7, 6), ("in", 6, 4)))

    def test_same_stroke_round_a_corner_of_a_stroke(self):
        # In a plan with a narrow lot one wall may stand in a room's rim at places that aren't neighbours.
        chance = random.Random(5)
        for plan in [plan_of(HANGING_STRAIGHT), plan_of(CROSSED_RING)] + [web_plan(chance) for _ in range(20)]:
            for room, rim in enumerate(rooms(plan)):
                for one in spots_of(rim):
                    for other in spots_of(rim):
                        if strokes_of(plan, one) & strokes_of(plan, other):
                            self.assertRaises(SameWall, put, plan, room, one, other)

    def test_full_by_places(self):
        plan = put(plan_of(fan(35)), 0, ("in", 0, 1), ("at", 3))
        self.assertEqual((many_places(plan), len(plan.walls)), (39, 39))
        big = [rim for rim in rooms(plan) if len(rim) == 3 and 10 in rim and 11 in rim][0]
        room = rooms(plan).index(big)
        self.assertEqual(big, (0, 10, 11))
        self.assertRaises(Full, put, plan, room, ("in", 0, 10), ("in", 11, 0))
        self.assertRaises(Full, put, plan, room, ("in", 0, 10), ("in", 10, 11))
        found = put(plan, room, ("at", 10), ("in", 11, 0))
        self.assertEqual((many_places(found), len(found.walls)), (40, 40))

    def test_just_forty_places(self):
        plan = plan_of(crossed_fan(35))
        self.assertEqual((many_places(plan), len(plan.walls)), (40, 39))
        self.assertEqual((plan.walls[3], plan.walls[4]), ((0, 5), (0, 6)))
        room = rooms(plan).index((3, 4, 39, 38))
        self.assertRaises(Full, put, plan, room, ("at", 3), ("in", 4, 39))
        self.assertRaises(Full, put, plan, room, ("in", 3, 4), ("in", 39, 38))
        found = put(plan, room, ("at", 3), ("at", 39))
        self.assertEqual((many_places(found), len(found.walls)), (40, 40))
        self.assertTrue(can_build(found))

    def test_just_forty_strokes(self):
        plan = plan_of(crossed_fan(35))
        room = rooms(plan).index((3, 4, 39, 38))
        full = put(plan, room, ("at", 3), ("at", 39))
        room = rooms(full).index((0, 38, 39))
        self.assertRaises(SameWall, put, full, room, ("at", 0), ("at", 38))
        many = 0
        for room, rim in enumerate(rooms(full)):
            for one in spots_of(rim):
                for other in spots_of(rim):
                    if not strokes_of(full, one) & strokes_of(full, other):
                        self.assertRaises(Full, put, full, room, one, other)
                        many += 1
        self.assertTrue(many > 30)
        wide = plan_of(HANGING_IN_A_FAN)
        self.assertEqual((many_places(wide), len(wide.walls)), (37, 40))
        room = rooms(wide).index((0, 3, 4))
        self.assertRaises(Full, put, wide, room, ("at", 3), ("in", 4, 0))

    def test_order_of_the_errors(self):
        full = plan_of(fan(37))
        split = plan_of(SPLIT)
        for plan in (split, full):
            rim = rooms(plan)[0]
            good = ("at", rim[0])
            self.assertRaises(NoRoom, put, plan, None, None, None)
            self.assertRaises(NoRoom, put, plan, len(rooms(plan)), good, good)
            self.assertRaises(NoSpot, put, plan, 0, None, good)
            self.assertRaises(NoSpot, put, plan, 0, good, None)
            self.assertRaises(SameWall, put, plan, 0, good, good)
        one, other = [(one, other) for one in spots_of(rooms(full)[0]) for other in spots_of(rooms(full)[0])
                      if not strokes_of(full, one) & strokes_of(full, other)][0]
        self.assertRaises(Full, put, full, 0, one, other)


class Strike(unittest.TestCase):
    def test_spelled_out(self):
        self.assertEqual(strike(plan_of(SPLIT), 4), plan_of(bare(4)))
        self.assertEqual(strike(plan_of(TEE), 5), plan_of(SPLIT))
        with self.assertRaises(BadPlan) as caught:
            strike(plan_of(TEE), 4)
        self.assertEqual(caught.exception.part, "stars")

    def test_the_others_are_numbered_anew(self):
        plan = plan_of(fan(4))
        self.assertEqual(plan.walls[3:], ((0, 3), (0, 4), (0, 5), (0, 6)))
        for wall in range(3, 7):
            self.assertEqual(strike(plan, wall), plan_of(fan(3)))
        crossed = plan_of(crossed_fan(3))
        self.assertEqual(crossed.walls[3:], ((0, 5), (0, 6, 3), (0, 7, 4), (6, 7)))
        found = strike(crossed, 3)
        self.assertEqual(found.walls, ((0, 1), (1, 3, 4, 2), (2, 0), (0, 5, 3), (0, 6, 4), (5, 6)))
        self.assertEqual(strike(crossed, 6), plan_of(fan(3)))

    def test_neighbours_are_left_out_at_once(self):
        self.assertEqual(strike(plan_of(crossed_fan(2)), 5), plan_of(fan(2)))
        plan = plan_of(BULGE)
        self.assertEqual(plan.walls[4:], ((1, 8), (2, 8), (4, 6, 7, 5), (6, 8, 7), (8, 9)))
        found = strike(plan, 7)
        self.assertEqual(found.walls, ((0, 4, 1), (1, 7, 2), (2, 5, 3), (3, 0), (1, 6), (2, 6), (4, 5), (6, 7)))
        self.assertEqual(found.rounds,
                         ((3, 4), (4, 7, 6), (5, 6, 7), (0, 5), (0, 1, 5), (2, 3, 4), (1, 7, 2), (1, 2, 6)))
        self.assertEqual(found, strike_by_rims(plan, 7))

    def test_a_long_stroke(self):
        # Five strokes end on stroke 4 from below and are crossed by none; without it no place of them is left.
        plan = plan_of(SPLIT)
        for row in range(3):
            rim = rooms(plan)[-1]
            at = [at for at in range(len(rim)) if {rim[at - 1], rim[at]} <= {*plan.walls[4]}][0]
            end = [at for at in range(len(rim)) if {rim[at - 1], rim[at]} <= {*plan.walls[1]}][0]
            plan = put(plan, len(rooms(plan)) - 1, ("in", rim[at - 1], rim[at]), ("in", rim[end - 1], rim[end]))
        self.assertEqual((len(plan.walls), len(plan.walls[4])), (8, 5))
        with self.assertRaises(BadPlan) as caught:
            strike(plan, 4)
        self.assertEqual(caught.exception.part, "stars")
        for wall in (6, 5, 5):
            plan = strike(plan, wall)
        self.assertEqual(plan, plan_of(SPLIT))

    def test_by_the_rims(self):
        parts = {}
        for plan in some_plans(25):
            for wall in range(plan.sides, len(plan.walls)):
                wanted = strike_by_rims(plan, wall)
                try:
                    found = strike(plan, wall)
                except BadPlan as error:
                    found = error.part
                self.assertEqual(found, wanted)
                key = found if isinstance(found, str) else "plan"
                parts[key] = parts.get(key, 0) + 1
        self.assertEqual(sorted(parts), ["flat", "plan", "stars", "ties"])
        self.assertTrue(parts["plan"] > 100 and parts["stars"] > 50)

    def test_back_from_puts(self):
        chance = random.Random(6)
        done = 0
        for plan in some_plans(8):
            for room, rim in enumerate(rooms(plan)):
                for one, other in spots_by_chance(chance, rim, 4):
                    if not strokes_of(plan, one) & strokes_of(plan, other):
                        found = put(plan, room, one, other)
                        many = many_places(plan)
                        ends = tuple(sorted(spot[1] if spot[0] == "at" else many + (spot is other and one[0] == "in")
                                            for spot in (one, other)))
                        self.assertEqual(strike(found, found.walls.index(ends)), plan)
                        done += 1
        self.assertTrue(done > 100)

    def test_parts_that_fail(self):
        for sketched, wall, part in [(LENS, (2, 5), "ties"), (STAR, (0, 3), "stars"),
                                     (HANGING, (0, 3), "flat"), (HANGING, (3, 6), "stars"), (BOWL, (1, 3), "stars"),
                                     (TEE_STAR, (4, 5), "stars"), (HANGING_BY_A_CUT, (0, 3), "flat"),
                                     (TWO_HANGING, (0, 7), "flat"), (HANGING_STRAIGHT, (0, 3, 6), "stars")]:
            plan = plan_of(sketched)
            with self.assertRaises(BadPlan) as caught:
                strike(plan, plan.walls.index(wall))
            self.assertEqual(caught.exception.part, part, wall)

    def test_no_stroke(self):
        for sketched in (TEE, STAR, OCTAGON, bare(3)):
            plan = plan_of(sketched)
            for thing in junk() + list(range(plan.sides)) + [len(plan.walls), -1, -2, (4,), [4], "4", (0, 3),
                                                             plan.walls[-1]]:
                self.assertRaises(NoWall, strike, plan, thing)


class Cut(unittest.TestCase):
    def test_spelled_out(self):
        tee = plan_of(TEE)
        found = cut(tee, 6)
        self.assertEqual(found.walls, tee.walls[:4] + ((4, 6), (5, 6), (6, 7)))
        self.assertEqual(found.rounds, tee.rounds)
        ring = cut(plan_of(CROSSED_RING), 3)
        self.assertEqual(ring, plan_of(RING))

    def test_all_places(self):
        cuts = 0
        for plan in some_plans(15):
            for place in range(many_places(plan)):
                if place in inner_places(plan):
                    found = cut(plan, place)
                    self.assertEqual(found, cut_by_hand(plan, [place]))
                    self.assertEqual(found.rounds, plan.rounds)
                    self.assertIs(lies_on(found, place), None)
                    if can_build(plan):
                        self.assertIs(can_build(found), True)
                    cuts += 1
                else:
                    self.assertRaises(NotCut, cut, plan, place)
        self.assertTrue(cuts > 50)

    def test_several_behind_each_other(self):
        octagon = plan_of(OCTAGON)
        self.assertRaises(NotCut, cut, cut(octagon, 8), 8)
        chance = random.Random(7)
        for _ in range(10):
            plan = grown(chance, 4, 16)[0]
            places = inner_places(plan)
            chance.shuffle(places)
            found = plan
            for place in places:
                found = cut(found, place)
            self.assertEqual(found, cut_by_hand(plan, places))
            self.assertEqual(inner_places(found), [])
            self.assertTrue(can_build(found))

    def test_not_cut(self):
        split, star = plan_of(SPLIT), plan_of(STAR)
        for place in range(6):
            # Places 4 and 5 lie on walls of the frame.
            self.assertRaises(NotCut, cut, split, place)
        for place in range(4):
            self.assertRaises(NotCut, cut, star, place)

    def test_no_place(self):
        for sketched in (TEE, STAR, bare(8)):
            plan = plan_of(sketched)
            for thing in junk() + [many_places(plan), -1, -2, (6,), [6], "6", None]:
                self.assertRaises(NoPlace, cut, plan, thing)

    def test_full(self):
        plan = plan_of(crossed_fan(35))
        found = cut(plan, 38)
        self.assertEqual((len(found.walls), many_places(found)), (40, 40))
        self.assertRaises(Full, cut, found, 39)
        self.assertRaises(NotCut, cut, found, 38)
        self.assertRaises(NotCut, cut, found, 3)
        self.assertRaises(NoPlace, cut, found, 40)
        self.assertEqual(found, cut_by_hand(plan, [38]))


class Join(unittest.TestCase):
    def test_spelled_out(self):
        ring = plan_of(RING)
        self.assertEqual(ring.walls[3:], ((0, 3), (1, 4), (2, 5), (3, 4), (3, 5), (3, 6), (4, 5), (4, 6), (5, 6)))
        for one, other in ((3, 8), (8, 3)):
            found = join(ring, 3, one, other)
            self.assertEqual(found, plan_of(CROSSED_RING))
        self.assertEqual(join(plan_of(STAR), 3, 3, 5).walls, ((0, 1), (1, 2), (2, 0), (0, 3, 2), (1, 3)))
        self.assertEqual(join(plan_of(STAR), 3, 5, 3).walls, ((0, 1), (1, 2), (2, 0), (0, 3, 2), (1, 3)))
        self.assertEqual(join(plan_of(STAR), 3, 4, 5).rounds, plan_of(STAR).rounds)

    def test_back_from_cuts(self):
        for plan in some_plans(15):
            for place in inner_places(plan):
                found = cut(plan, place)
                wall = plan.walls[lies_on(plan, place)]
                at = wall.index(place)
                parts = [min(part, part[::-1]) for part in (wall[:at + 1], wall[at:])]
                one, other = [found.walls.index(part) for part in parts]
                self.assertEqual(join(found, place, one, other), plan)
                self.assertEqual(join(found, place, other, one), plan)

    def test_longer_strokes(self):
        plan = plan_of(CROSSED_RING)
        self.assertEqual(plan.walls[3], (0, 3, 6))
        found = join(plan, 6, 3, plan.walls.index((4, 6)))
        self.assertEqual(found.walls[3], (0, 3, 6, 4))
        self.assertEqual(found.rounds, plan.rounds)

    def test_all_ways(self):
        joined = 0
        for plan in some_plans(15, 12):
            for place in range(many_places(plan)):
                for one in range(plan.sides, len(plan.walls)):
                    for other in range(plan.sides, len(plan.walls)):
                        wall, far = plan.walls[one], plan.walls[other]
                        ends = [wall[0], wall[-1]].count(place) + [far[0], far[-1]].count(place)
                        if place in stars_of(plan) and ends == 2 and one != other and {*wall} & {*far} == {place}:
                            found = join(plan, place, one, other)
                            self.assertEqual(cut_by_hand(found, [place]), plan)
                            joined += 1
                        else:
                            self.assertRaises(NotJoined, join, plan, place, one, other)
        self.assertTrue(joined > 50)

    def test_each_reason(self):
        ring = plan_of(RING)
        # Corners, a place on a wall of the frame, one on another wall.
        self.assertRaises(NotJoined, join, ring, 0, 3, 4)
        self.assertRaises(NotJoined, join, plan_of(fan(3)), 0, 3, 4)
        self.assertRaises(NotJoined, join, plan_of(fan(3)), 3, 3, 4)
        crossed = plan_of(CROSSED_RING)
        self.assertRaises(NotJoined, join, crossed, 3, crossed.walls.index((3, 4)), crossed.walls.index((3, 5)))
        # They don't both end there.
        self.assertRaises(NotJoined, join, ring, 3, 3, 4)
        self.assertRaises(NotJoined, join, ring, 3, 4, 3)
        self.assertRaises(NotJoined, join, ring, 3, 4, 5)
        # They are one.
        self.assertRaises(NotJoined, join, ring, 3, 3, 3)
        # They meet at another place, too: at the end of both, or where one ends at the other.
        twice = plan_of(TWICE)
        one, other = twice.walls.index((1, 4, 3)), twice.walls.index((3, 6, 4))
        self.assertRaises(NotJoined, join, twice, 3, one, other)
        self.assertRaises(NotJoined, join, twice, 3, other, one)
        self.assertTrue(join(twice, 3, twice.walls.index((0, 3)), one))
        # Walls that meet elsewhere only where a third one goes by are joined.
        bigon = plan_of(BIGON)
        self.assertEqual(bigon.walls[3:], ((3, 5), (3, 6), (4, 5), (4, 6), (5, 6)))
        self.assertEqual(join(join(bigon, 5, 3, 5), 6, 4, 5).walls[3:], ((3, 5, 4), (3, 6, 4), (5, 6)))

    def test_no_place(self):
        ring = plan_of(RING)
        for thing in junk() + [7, -1, (3,), [3], "3"]:
            self.assertRaises(NoPlace, join, ring, thing, 3, 8)

    def test_no_stroke(self):
        ring = plan_of(RING)
        for thing in junk() + [0, 1, 2, 12, -1, -4, (3,), [3], "3", (0, 3)]:
            self.assertRaises(NoWall, join, ring, 3, thing, 8)
            self.assertRaises(NoWall, join, ring, 3, 3, thing)

    def test_order_of_the_errors(self):
        ring = plan_of(RING)
        self.assertRaises(NoPlace, join, ring, None, None, None)
        self.assertRaises(NoPlace, join, ring, 7, 0, 0)
        self.assertRaises(NoWall, join, ring, 0, None, 3)
        self.assertRaises(NoWall, join, ring, 0, 3, None)
        self.assertRaises(NoWall, join, ring, 0, 2, 2)
        self.assertRaises(NotJoined, join, ring, 0, 3, 3)
        tee = plan_of(TEE)
        self.assertRaises(NoPlace, cut, plan_of(fan(37)), 40)
        self.assertRaises(NotCut, cut, tee, 0)


class Handed(unittest.TestCase):
    def test_elder_plans_stay_as_they_were(self):
        chance = random.Random(8)
        for _, plan in all_plans():
            kept = Plan(plan.sides, plan.walls, plan.rounds)
            edited(chance, plan, 6)
            for wall in range(plan.sides, len(plan.walls)):
                try:
                    strike(plan, wall)
                except BadPlan:
                    pass
            self.assertEqual(plan, kept)

    def test_refused_edits_change_nothing(self):
        plan = plan_of(TEE)
        things = junk()
        for thing in things:
            kept = copy.deepcopy(thing) if not isinstance(thing, StrokeError) else thing
            for function, handed in [(put, (thing, thing, thing)), (put, (0, thing, ("at", 0))), (strike, (thing,)),
                                     (cut, (thing,)), (join, (thing, thing, thing)), (join, (6, thing, 4))]:
                self.assertRaises(StrokeError, function, plan, *handed)
            self.assertEqual(thing, kept)
        self.assertEqual(plan, plan_of(TEE))

    def test_equal_calls(self):
        for _ in range(2):
            self.assertEqual(put(plan_of(SPLIT), 1, ("in", 5, 4), ("in", 1, 2)), plan_of(TEE))
            self.assertEqual(strike(plan_of(TEE), 5), plan_of(SPLIT))

    def test_kinds_of_values(self):
        ring = plan_of(RING)
        self.assertEqual(rooms(ring)[0], (0, 1, 4, 3))
        for found in [put(ring, 0, ("at", 0), ("in", 1, 4)), strike(plan_of(TEE), 5), cut(plan_of(TEE), 6),
                      join(ring, 3, 3, 8)]:
            self.assertIs(type(found), Plan)
            self.assertIs(type(found.walls), tuple)
            self.assertEqual({type(row) for row in found.walls + found.rounds}, {tuple})

    def test_edits_and_new_names(self):
        # What is edited behind new names is what is renamed behind the edit.
        tee = plan_of(TEE)
        names = (1, 2, 3, 0, 5, 4, 7, 6)
        other = renamed(tee, names)
        self.assertEqual(renamed(cut(tee, 6), names), cut(other, 7))
        self.assertTrue(alikes(strike(other, 5), strike(tee, 5)))


if __name__ == "__main__":
    unittest.main()
