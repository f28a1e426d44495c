"""Promise 11, and of 2 to 5 what they say of moves: weights read off drawings, and drawings between drawings."""

import copy
import random
import unittest
from fractions import Fraction

from samples import altered, convex, grown, pair, point, weights_by_chance
from sketches import (BIGON, BOWL, LENS, OCTAGON, PINWHEEL, RING, SPLIT, STAR, TEE, TEE_STAR, all_plans, bare,
                      crossed_fan, deep, fan, junk, plan_of, wheel)
from threeexits.built import is_built
from threeexits.drawing import drawing, even_weights, is_weights, plain_frame
from threeexits.editing import cut, put
from threeexits.errors import NoDrawing, NoMoment, NoWeights, OtherFrame, StrokeError
from threeexits.lots import can_build
from threeexits.moves import is_weights_of, lead, mixed, weights_of
from threeexits.places import lies_on, many_places, mirrored

BIG = 10 ** 30 - 1
NO_MOMENTS = [(-1, 2), (-1, 1), (3, 2), (2, 1), (BIG, BIG - 1), (-1, BIG), (2, 4), (0, 2), (2, 2), (0, 0), (1, 0),
              (0, -1), (1, -1), (-1, -2), True, False, 0, 1, [0, 1], [1, 2], (1,), (1, 2, 1), (True, 1), (1, True),
              (False, 1), "1/2", ("1", "2"), None, ((1, 2),), {1: 2}]


def frame_by_chance(chance, sides):
    return tuple(point(right, up) for right, up in convex(chance, sides))


def swapped(row, at, worth):
    return row[:at] + (worth,) + row[at + 1:]


def small_plans():
    """Plans that can be built, with stars and without."""
    chance = random.Random(11)
    found = [plan for _, plan in all_plans() if len(plan.walls) <= 20 and can_build(plan)]
    for sides in range(3, 9):
        plan = grown(chance, sides, 12)[0]
        found += [plan, altered(chance, plan, 5, 0), mirrored(plan)]
    return found


PLANS = small_plans()


def drawings_of(chance, plan):
    """Drawings of the plan: even ones, and ones far from even."""
    frame = frame_by_chance(chance, plan.sides)
    return [drawing(plan, plain_frame(plan.sides), even_weights(plan)), drawing(plan, frame, even_weights(plan)),
            drawing(plan, frame, weights_by_chance(chance, plan, 50)),
            drawing(plan, frame, weights_by_chance(chance, plan, BIG)), drawing(plan, frame, far_weights(chance, plan))]


def far_weights(chance, plan):
    """Weights that bring each place as near to a neighbour as may be."""
    weights = [None] * plan.sides
    for place in range(plan.sides, many_places(plan)):
        many = len(plan.rounds[place])
        if lies_on(plan, place) is not None:
            weights.append(chance.choice(((1, 99), (98, 99))))
        else:
            shares = [(1, 99)] * many
            shares[chance.randrange(many)] = pair(Fraction(100 - many, 99))
            weights.append(tuple(shares))
    return tuple(weights)


def no_drawings(plan, drawn):
    """What is no built drawing of a plan with a place that is no corner."""
    last = len(drawn) - 1
    return junk() + [list(drawn), drawn[:-1], drawn + drawn[:1], (), drawn[:plan.sides], drawn[::-1], None,
                     swapped(drawn, last, drawn[0]), swapped(drawn, last, ((99, 1), (0, 1))),
                     swapped(drawn, last, None), swapped(drawn, 0, drawn[1]),
                     swapped(drawn, last, (drawn[last][0],)), even_weights(plan),
                     swapped(drawn, last, ((2, 4), (1, 1))), swapped(drawn, last, list(drawn[last]))]


class WeightsOf(unittest.TestCase):
    def test_spelled_out(self):
        tee = plan_of(TEE)
        drawn = tuple(point(right, up) for right, up in TEE[1])
        self.assertEqual(weights_of(tee, drawn), (None,) * 4 + ((1, 3), (2, 3), (1, 2), (1, 2)))
        star = plan_of(STAR)
        drawn = tuple(point(right, up) for right, up in [(0, 0), (12, 0), (0, 12), (3, 2)])
        self.assertEqual(star.rounds[3], (0, 1, 2))
        self.assertEqual(weights_of(star, drawn), (None,) * 3 + (((7, 12), (1, 4), (1, 6)),))
        self.assertEqual(weights_of(plan_of(bare(5)), plain_frame(5)), (None,) * 5)

    def test_they_lead_to_the_drawing(self):
        chance = random.Random(1)
        for plan in PLANS:
            for drawn in drawings_of(chance, plan):
                weights = weights_of(plan, drawn)
                self.assertIs(is_weights(plan, weights), True)
                self.assertEqual(drawing(plan, drawn[:plan.sides], weights), drawn)
                self.assertIs(is_weights_of(plan, drawn, weights), True)

    def test_where_there_are_no_others(self):
        chance = random.Random(2)
        for plan in PLANS:
            weights = weights_by_chance(chance, plan, 1000)
            found = weights_of(plan, drawing(plan, frame_by_chance(chance, plan.sides), weights))
            for place, weight in enumerate(weights):
                if lies_on(plan, place) is not None or len(plan.rounds[place]) == 3 or place < plan.sides:
                    self.assertEqual(found[place], weight)

    def test_strangers_drawings(self):
        chance = random.Random(3)
        for sides in range(3, 9):
            plan, drawn = grown(chance, sides, 14)
            self.assertTrue(is_built(plan, drawn))
            weights = weights_of(plan, drawn)
            self.assertEqual(drawing(plan, drawn[:sides], weights), drawn)
            self.assertTrue(is_weights_of(plan, drawn, weights))
            for place in [place for wall in plan.walls[sides:] for place in wall[1:-1]]:
                other = cut(plan, place)
                # Behind a cut a room goes straight on at a star, unless walls end there on both sides.
                if is_built(other, drawn):
                    self.assertTrue(len(plan.rounds[place]) > 3)
                    self.assertTrue(is_weights_of(other, drawn, weights_of(other, drawn)))
                else:
                    self.assertRaises(NoDrawing, weights_of, other, drawn)

    def test_strokes_that_go_up_or_down(self):
        plan = plan_of(SPLIT)
        frame = tuple(point(right, up) for right, up in [(0, 0), (0, -6), (5, -7), (5, 2)])
        weights = (None,) * 4 + ((1, 7), (5, 9))
        self.assertEqual(weights_of(plan, drawing(plan, frame, weights)), weights)

    def test_full_plans(self):
        chance = random.Random(4)
        for sketched in (fan(37), crossed_fan(35), wheel(34)):
            plan = plan_of(sketched)
            drawn = drawing(plan, frame_by_chance(chance, 3), weights_by_chance(chance, plan, 10 ** 6))
            weights = weights_of(plan, drawn)
            self.assertTrue(is_weights(plan, weights))
            self.assertEqual(drawing(plan, drawn[:3], weights), drawn)

    def test_a_star_on_a_line_between_neighbours(self):
        # At place 8 of the octagon, cut, the ties lead against each other.
        plan = cut(plan_of(OCTAGON), 8)
        self.assertIs(lies_on(plan, 8), None)
        frame = tuple(point(right, up) for right, up in OCTAGON[1][:8])
        for weights in [((1, 4),) * 4, ((1, 3), (1, 6), (1, 3), (1, 6)), ((1, 5), (1, 10), (1, 5), (1, 2))]:
            drawn = drawing(plan, frame, (None,) * 8 + (weights,))
            found = weights_of(plan, drawn)
            self.assertTrue(is_weights(plan, found))
            self.assertTrue(is_weights_of(plan, drawn, found))
            self.assertTrue(is_weights_of(plan, drawn, (None,) * 8 + (weights,)))

    def test_no_drawing(self):
        for sketched in (TEE, STAR, PINWHEEL):
            plan = plan_of(sketched)
            drawn = drawing(plan, plain_frame(plan.sides), even_weights(plan))
            for thing in no_drawings(plan, drawn):
                self.assertRaises(NoDrawing, weights_of, plan, thing)
                self.assertRaises(NoDrawing, is_weights_of, plan, thing, weights_of(plan, drawn))
                self.assertRaises(NoDrawing, is_weights_of, plan, thing, None)
        lens = plan_of(LENS)
        points = tuple(point(right, up) for right, up in LENS[1])
        self.assertRaises(NoDrawing, weights_of, lens, points)
        self.assertRaises(NoDrawing, is_weights_of, lens, points, even_weights(lens))


class IsWeightsOf(unittest.TestCase):
    def test_what_was_drawn_by(self):
        chance = random.Random(5)
        for plan in PLANS:
            weights = weights_by_chance(chance, plan, 60)
            drawn = drawing(plan, frame_by_chance(chance, plan.sides), weights)
            self.assertIs(is_weights_of(plan, drawn, weights), True)
            self.assertTrue(is_weights_of(plan, drawing(plan, plain_frame(plan.sides), weights), weights))

    def test_one_share_otherwise(self):
        chance = random.Random(6)
        for plan in PLANS:
            weights = weights_by_chance(chance, plan, 60)
            drawn = drawing(plan, frame_by_chance(chance, plan.sides), weights)
            for place in range(plan.sides, many_places(plan)):
                if lies_on(plan, place) is not None:
                    top, bottom = weights[place]
                    others = [pair(Fraction(top, bottom) / 2), pair(1 - Fraction(bottom - top, bottom) / 2),
                              pair(Fraction(top, bottom) + Fraction(1, BIG))]
                else:
                    shares = [Fraction(*share) for share in weights[place]]
                    others = [tuple(map(pair, [shares[0] / 2, shares[1] + shares[0] / 2] + shares[2:])),
                              tuple(map(pair, [shares[0] + shares[1] / 2, shares[1] / 2] + shares[2:]))]
                for other in others:
                    changed = swapped(weights, place, other)
                    self.assertTrue(is_weights(plan, changed))
                    self.assertIs(is_weights_of(plan, drawn, changed), False)

    def test_shares_that_balance_each_other(self):
        plan = cut(plan_of(OCTAGON), 8)
        frame = tuple(point(right, up) for right, up in OCTAGON[1][:8])
        drawn = drawing(plan, frame, even_weights(plan))
        ways = [(Fraction(*drawn[near][0]) - Fraction(*drawn[8][0]), Fraction(*drawn[near][1]) - Fraction(*drawn[8][1]))
                for near in plan.rounds[8]]
        told = set()
        for top in range(1, 12):
            for other in range(1, 12):
                # Two of the shares leave the other two to be worked out.
                shares = [Fraction(top, 24), Fraction(other, 24)]
                for third in range(1, 24 - top - other):
                    shares[2:] = [Fraction(third, 24), 1 - Fraction(top + other + third, 24)]
                    weights = (None,) * 8 + (tuple(pair(share) for share in shares),)
                    wanted = all(sum(share * way[axis] for share, way in zip(shares, ways)) == 0 for axis in (0, 1))
                    self.assertIs(is_weights_of(plan, drawn, weights), wanted)
                    told.add(wanted)
        self.assertEqual(told, {True, False})

    def test_what_is_none(self):
        for sketched in (TEE, STAR, PINWHEEL, BOWL):
            plan = plan_of(sketched)
            even = even_weights(plan)
            drawn = drawing(plan, plain_frame(plan.sides), even)
            last = len(even) - 1
            for thing in junk() + [list(even), even[:-1], even + (None,), swapped(even, 0, (1, 2)), (),
                                   swapped(even, last, None), swapped(even, last, list(even[last])),
                                   swapped(even, last, (2, 4)), swapped(even, last, (0, 1)),
                                   swapped(even, last, (1, 1)), swapped(even, last, True)]:
                self.assertIs(is_weights_of(plan, drawn, thing), False)
            self.assertIs(is_weights_of(plan, drawn, even), True)

    def test_by_all_places(self):
        chance = random.Random(7)
        for plan in PLANS[::3]:
            frame = frame_by_chance(chance, plan.sides)
            one, other = weights_by_chance(chance, plan, 40), weights_by_chance(chance, plan, 40)
            drawn, moved = drawing(plan, frame, one), drawing(plan, frame, other)
            self.assertEqual(is_weights_of(plan, drawn, other), drawn == moved)
            self.assertEqual(is_weights_of(plan, moved, one), drawn == moved)


class Mixed(unittest.TestCase):
    def test_spelled_out(self):
        plan = plan_of(TEE)
        one = (None,) * 4 + ((1, 3), (2, 3), (1, 2), (1, 2))
        other = (None,) * 4 + ((2, 3), (2, 3), (1, 4), (5, 6))
        self.assertEqual(mixed(plan, one, other, (0, 1)), one)
        self.assertEqual(mixed(plan, one, other, (1, 1)), other)
        self.assertEqual(mixed(plan, one, other, (1, 2)), (None,) * 4 + ((1, 2), (2, 3), (3, 8), (2, 3)))
        self.assertEqual(mixed(plan, one, other, (1, 3)), (None,) * 4 + ((4, 9), (2, 3), (5, 12), (11, 18)))
        star = plan_of(STAR)
        one, other = (None,) * 3 + (((1, 3),) * 3,), (None,) * 3 + (((1, 2), (1, 4), (1, 4)),)
        self.assertEqual(mixed(star, one, other, (3, 4)), (None,) * 3 + (((11, 24), (13, 48), (13, 48)),))
        self.assertEqual(mixed(plan_of(bare(4)), (None,) * 4, (None,) * 4, (1, 2)), (None,) * 4)

    def test_by_fractions(self):
        chance = random.Random(8)
        for plan in PLANS:
            one, other = weights_by_chance(chance, plan, 70), weights_by_chance(chance, plan, BIG)
            for moment in [(0, 1), (1, 1), (1, 2), (1, BIG), (BIG - 1, BIG), pair(Fraction(chance.randint(1, 98), 99))]:
                part = Fraction(*moment)
                found = mixed(plan, one, other, moment)
                self.assertIs(is_weights(plan, found), True)
                for place, weight in enumerate(found):
                    rows = [one[place], other[place], weight]
                    if lies_on(plan, place) is not None:
                        rows = [(row,) for row in rows]
                    for share, later, now in zip(*[row or () for row in rows]):
                        self.assertEqual(now, pair((1 - part) * Fraction(*share) + part * Fraction(*later)))

    def test_ends(self):
        chance = random.Random(9)
        for plan in PLANS:
            one, other = weights_by_chance(chance, plan, 70), far_weights(chance, plan)
            self.assertEqual(mixed(plan, one, other, (0, 1)), one)
            self.assertEqual(mixed(plan, one, other, (1, 1)), other)
            self.assertEqual(mixed(plan, one, one, (2, 7)), one)

    def test_plans_with_narrow_lots(self):
        for sketched in (LENS, BIGON):
            plan = plan_of(sketched)
            even = even_weights(plan)
            self.assertEqual(mixed(plan, even, even, (1, 2)), even)
            self.assertRaises(NoWeights, mixed, plan, even, even_weights(plan_of(TEE)), (1, 2))

    def test_no_weights(self):
        for sketched in (TEE, STAR):
            plan = plan_of(sketched)
            even = even_weights(plan)
            for thing in junk() + [even[:-1], even + (None,), list(even), (), swapped(even, 0, (1, 2)),
                                   swapped(even, 3, (2, 4)), swapped(even, 3, (0, 1)), plain_frame(4)]:
                self.assertRaises(NoWeights, mixed, plan, thing, even, (1, 2))
                self.assertRaises(NoWeights, mixed, plan, even, thing, (1, 2))
                self.assertRaises(NoWeights, mixed, plan, even, thing, None)

    def test_no_moment(self):
        for sketched in (TEE, STAR, bare(3)):
            plan = plan_of(sketched)
            for thing in junk() + NO_MOMENTS:
                self.assertRaises(NoMoment, mixed, plan, even_weights(plan), even_weights(plan), thing)


class Lead(unittest.TestCase):
    def test_spelled_out(self):
        plan = plan_of(SPLIT)
        one = tuple(point(right, up) for right, up in [(0, 0), (6, 0), (6, 6), (0, 6), (2, 0), (2, 6)])
        other = one[:4] + (point(4, 0), point(3, 6))
        self.assertEqual(lead(plan, one, other, (1, 2)), one[:4] + (point(3, 0), point(Fraction(5, 2), 6)))
        self.assertEqual(lead(plan, one, other, (1, 6))[4:], (point(Fraction(7, 3), 0), point(Fraction(13, 6), 6)))
        self.assertEqual(lead(plan, one, other, (0, 1)), one)
        self.assertEqual(lead(plan, one, other, (1, 1)), other)

    def test_each_step_is_built(self):
        chance = random.Random(10)
        for plan in PLANS:
            frame = frame_by_chance(chance, plan.sides)
            for one, other in [(weights_by_chance(chance, plan, 60), weights_by_chance(chance, plan, 60)),
                               (far_weights(chance, plan), far_weights(chance, plan))]:
                begin, end = drawing(plan, frame, one), drawing(plan, frame, other)
                self.assertEqual(lead(plan, begin, end, (0, 1)), begin)
                self.assertEqual(lead(plan, begin, end, (1, 1)), end)
                for moment in [(1, 2), (1, 7), (99, 100), (1, BIG)]:
                    found = lead(plan, begin, end, moment)
                    self.assertTrue(is_built(plan, found))
                    self.assertEqual(found[:plan.sides], frame)
                    weights = mixed(plan, weights_of(plan, begin), weights_of(plan, end), moment)
                    self.assertEqual(found, drawing(plan, frame, weights))

    def test_strangers_drawings(self):
        chance = random.Random(11)
        for sides in (3, 5):
            plan, one = grown(chance, sides, 18)
            other = drawing(plan, one[:sides], even_weights(plan))
            self.assertEqual(lead(plan, one, other, (0, 1)), one)
            self.assertEqual(lead(plan, one, other, (1, 1)), other)
            self.assertTrue(is_built(plan, lead(plan, one, other, (2, 3))))

    def test_what_was_returned_leads_on(self):
        chance = random.Random(12)
        for sketched in (PINWHEEL, RING, TEE_STAR):
            plan = plan_of(sketched)
            frame = plain_frame(plan.sides)
            begin = drawing(plan, frame, weights_by_chance(chance, plan, BIG))
            end = drawing(plan, frame, weights_by_chance(chance, plan, BIG))
            for _ in range(3):
                begin = lead(plan, begin, end, (1, BIG))
                self.assertTrue(is_built(plan, begin))
                self.assertEqual(lead(plan, begin, end, (0, 1)), begin)

    def test_no_drawing(self):
        for sketched in (TEE, STAR):
            plan = plan_of(sketched)
            drawn = drawing(plan, plain_frame(plan.sides), even_weights(plan))
            for thing in no_drawings(plan, drawn):
                self.assertRaises(NoDrawing, lead, plan, thing, drawn, (1, 2))
                self.assertRaises(NoDrawing, lead, plan, drawn, thing, (1, 2))
                self.assertRaises(NoDrawing, lead, plan, drawn, thing, None)

    def test_other_frame(self):
        chance = random.Random(13)
        for plan in PLANS:
            one = drawing(plan, plain_frame(plan.sides), even_weights(plan))
            for frame in [frame_by_chance(chance, plan.sides), one[1:plan.sides] + one[:1],
                          swapped(one[:plan.sides], 0, ((-1, BIG), (0, 1)))]:
                other = drawing(plan, frame, even_weights(plan))
                for moment in ((0, 1), (1, 2), (2, 1), None):
                    self.assertRaises(OtherFrame, lead, plan, one, other, moment)
                    self.assertRaises(OtherFrame, lead, plan, other, one, moment)

    def test_no_moment(self):
        for sketched in (TEE, STAR, bare(5)):
            plan = plan_of(sketched)
            drawn = drawing(plan, plain_frame(plan.sides), even_weights(plan))
            for thing in junk() + NO_MOMENTS:
                self.assertRaises(NoMoment, lead, plan, drawn, drawn, thing)

    def test_order_of_the_errors(self):
        plan = plan_of(TEE)
        drawn = drawing(plan, plain_frame(4), even_weights(plan))
        self.assertRaises(NoDrawing, lead, plan, None, None, None)
        self.assertRaises(NoDrawing, lead, plan, drawn, drawn[:4], (3, 1))
        self.assertRaises(NoDrawing, lead, plan, drawn, drawn[1:4] + drawn[:1] + drawn[4:], (1, 2))
        self.assertRaises(NoWeights, mixed, plan, None, None, None)
        self.assertRaises(NoMoment, mixed, plan, even_weights(plan), even_weights(plan), None)

    def test_behind_a_put(self):
        plan = plan_of(SPLIT)
        more = put(plan, 0, ("at", 0), ("in", 4, 5))
        drawn = drawing(more, plain_frame(4), even_weights(more))
        self.assertRaises(NoDrawing, lead, plan, drawn, drawn, (1, 2))
        self.assertEqual(lead(more, drawn, drawn, (1, 2)), drawn)


class Handed(unittest.TestCase):
    def test_arguments_stay_as_they_were(self):
        plan = plan_of(STAR)
        drawn = drawing(plan, plain_frame(3), even_weights(plan))
        for thing in junk() + [[[1, 2], {3: [4]}], deep(list), deep(dict)]:
            kept = copy.deepcopy(thing) if not isinstance(thing, StrokeError) else thing
            self.assertFalse(is_weights_of(plan, drawn, thing))
            self.assertRaises(NoDrawing, weights_of, plan, thing)
            self.assertRaises(NoDrawing, lead, plan, drawn, thing, thing)
            self.assertRaises(NoWeights, mixed, plan, thing, thing, thing)
            self.assertRaises(NoMoment, lead, plan, drawn, drawn, thing)
            self.assertEqual(thing, kept)
        self.assertEqual(plan, plan_of(STAR))

    def test_equal_calls_and_kinds_of_values(self):
        for sketched in (TEE, STAR, wheel(3)):
            plan, again = plan_of(sketched), plan_of(sketched)
            drawn = drawing(plan, plain_frame(plan.sides), even_weights(plan))
            self.assertEqual(weights_of(plan, drawn), weights_of(again, drawn))
            even = even_weights(plan)
            for found in (weights_of(plan, drawn), mixed(plan, even, even, (1, 2)), lead(plan, drawn, drawn, (1, 2))):
                self.assertIs(type(found), tuple)
                self.assertEqual(len(found), many_places(plan))
                self.assertTrue({type(item) for item in found} <= {tuple, type(None)})


if __name__ == "__main__":
    unittest.main()
