"""Promises 3 to 5 over the whole program: what each function refuses, by just the error that its point names."""

import copy
import random
import unittest

from sketches import CROSSED_RING, HANGING, LENS, SPLIT, STAR, TEE, bare as bare_sketch, deep, fan, junk, plan_of
from test_healing import comb
from threeexits import built, desk, drawing, editing, errors, growing, healing, journals, lots, moves, places, plans
from threeexits import texts
from threeexits.errors import StrokeError

PLAN = plan_of(TEE)
FRAME = drawing.plain_frame(4)
EVEN = drawing.even_weights(PLAN)
DRAWN = drawing.drawing(PLAN, FRAME, EVEN)
SQUARE = (((0, 1), (0, 1)), ((6, 1), (0, 1)), ((6, 1), (6, 1)), ((0, 1), (6, 1)))
OTHER = drawing.drawing(PLAN, SQUARE, EVEN)
NARROW = plan_of(LENS)
FULL = plan_of(fan(37))
LARGE = plan_of(fan(12))


def desk_of(*deeds):
    found = desk.Desk(4)
    for deed in deeds:
        found.do(deed)
    return found


def narrow_desk():
    found = desk.Desk(3)
    for deed in (("put", 0, ("in", 0, 1), ("in", 1, 2)), ("put", 0, ("at", 3), ("at", 2)),
                 ("put", 2, ("at", 4), ("in", 2, 3)), ("cut", 5), ("join", 5, 5, 6)):
        found.do(deed)
    return found


# The name of an error, a function, what it is given; and the field of the error, where it has one.
REFUSED = [
    ("BadPlan", plans.Plan, (2, PLAN.walls, PLAN.rounds), "sides"),
    ("BadPlan", plans.Plan, (4, PLAN.walls[:3], PLAN.rounds), "walls"),
    ("BadPlan", plans.Plan, (4, PLAN.walls, PLAN.rounds[:-1]), "rounds"),
    ("NoPlace", places.lies_on, (PLAN, 8)), ("NoPlace", places.walls_at, (PLAN, None)),
    ("NoNames", places.renamed, (PLAN, (0, 1, 2, 3))),
    ("NoWalls", lots.closed, (PLAN, (0, 2))), ("NoLot", lots.exits, (PLAN, (0, 1, 2, 3))),
    ("TooMany", lots.all_lots, (LARGE,), 14), ("TooMany", lots.all_narrow, (LARGE,), 14),
    ("NoSides", drawing.plain_frame, (9,)), ("NoFrame", drawing.drawing, (PLAN, FRAME[:3], EVEN)),
    ("NoWeights", drawing.drawing, (PLAN, FRAME, EVEN[:-1])),
    ("Narrow", drawing.drawing, (NARROW, drawing.plain_frame(3), drawing.even_weights(NARROW)), lots.narrow(NARROW)),
    ("NoDrawing", built.areas, (PLAN, FRAME)), ("NoDrawing", built.hit, (PLAN, FRAME, DRAWN[0])),
    ("NoPoint", built.hit, (PLAN, DRAWN, (0, 0))), ("NoDrawing", built.picture, (PLAN, None, 3, 3)),
    ("NoNumber", built.picture, (PLAN, DRAWN, 0, 3)), ("NoNumber", built.picture, (PLAN, DRAWN, 3, 61)),
    ("NoDrawing", moves.weights_of, (PLAN, FRAME)), ("NoDrawing", moves.is_weights_of, (PLAN, FRAME, EVEN)),
    ("NoWeights", moves.mixed, (PLAN, None, EVEN, (1, 2))), ("NoWeights", moves.mixed, (PLAN, EVEN, None, (1, 2))),
    ("NoMoment", moves.mixed, (PLAN, EVEN, EVEN, (3, 2))),
    ("NoDrawing", moves.lead, (PLAN, None, DRAWN, (1, 2))), ("NoDrawing", moves.lead, (PLAN, DRAWN, None, (1, 2))),
    ("OtherFrame", moves.lead, (PLAN, DRAWN, OTHER, (1, 2))), ("NoMoment", moves.lead, (PLAN, DRAWN, DRAWN, 1)),
    ("NoRoom", editing.put, (PLAN, 3, ("at", 0), ("at", 5))), ("NoSpot", editing.put, (PLAN, 0, ("at", 1), ("at", 5))),
    ("NoSpot", editing.put, (PLAN, 0, ("at", 0), ("on", 5))), ("SameWall", editing.put, (PLAN, 0, ("at", 0),
    ("at", 4))),
    ("Full", editing.put, (FULL, 0, ("at", 0), ("in", *[rim for rim in places.rooms(FULL)][0][1:]))),
    ("NoWall", editing.strike, (PLAN, 3)), ("BadPlan", editing.strike, (PLAN, 4), "stars"),
    ("NoPlace", editing.cut, (PLAN, 8)), ("NotCut", editing.cut, (PLAN, 4)),
    ("Full", editing.cut, (healing.after_cuts(comb(15, 8), tuple(range(6, 18))), 18)),
    ("NoPlace", editing.join, (PLAN, 8, 4, 5)), ("NoWall", editing.join, (PLAN, 6, 3, 5)),
    ("NoWall", editing.join, (PLAN, 6, 5, 6)), ("NotJoined", editing.join, (PLAN, 6, 4, 5)),
    ("NoSides", growing.bare, (2,)), ("NoSides", growing.grown, (2, None)), ("NoGrowth", growing.grown, (4, None), -1),
    ("NoGrowth", growing.grown, (4, ((0, ("at", 0), ("at", 2)), None)), 1),
    ("NoPlaces", healing.after_cuts, (PLAN, (4,))),
    ("Full", healing.after_cuts, (comb(15, 8), tuple(range(6, 21)))),
    ("TooMany", healing.fewest_cuts, (comb(15),), 14),
    ("NoSides", desk.Desk, (9,)), ("NoDeed", desk.Desk(4).do, (("mirror", 0),)),
    ("NoRoom", desk.Desk(4).do, (("put", 1, ("at", 0), ("at", 2)),)),
    ("NoSpot", desk.Desk(4).do, (("put", 0, ("at", 0), ("at", 4)),)),
    ("SameWall", desk.Desk(4).do, (("put", 0, ("at", 0), ("at", 1)),)),
    ("NoWall", desk.Desk(4).do, (("strike", 0),)), ("NoPlace", desk.Desk(4).do, (("cut", 4),)),
    ("NotCut", desk.Desk(4).do, (("cut", 3),)), ("NotJoined", desk_of(("put", 0, ("at", 0), ("at", 2))).do,
                                                 (("join", 0, 4, 4),)),
    ("NoNames", desk.Desk(4).do, (("turn", (3, 2, 1, 0)),)), ("NothingDone", desk.Desk(4).back, ()),
    ("NoFrame", desk.Desk(4).draw, (FRAME[::-1],)), ("NoFrame", narrow_desk().draw, (FRAME,)),
    ("Narrow", narrow_desk().draw, (drawing.plain_frame(3),), narrow_desk().narrow()),
    ("NoText", texts.read_plan, (None,)), ("BadText", texts.read_plan, ("sides 4\n",), 2),
    ("BadPlan", texts.read_plan, ("sides 2\nwall 0 1\nround 1\n",), "sides"),
    ("NoDrawing", texts.drawing_text, ((DRAWN[0], None),)), ("NoText", texts.read_drawing, ([],)),
    ("BadText", texts.read_drawing, ("0/1 0/1",), 1),
    ("NoText", journals.recovered, (desk.Desk(4),)), ("NoJournal", journals.recovered, ("desk 4 #220\n",)),
]


class Refused(unittest.TestCase):
    def test_just_the_error_that_is_named(self):
        for name, function, given, *field in REFUSED:
            with self.subTest(name + " of " + function.__name__):
                with self.assertRaises(StrokeError) as caught:
                    function(*given)
                self.assertIs(type(caught.exception), getattr(errors, name))
                self.assertEqual(list(vars(caught.exception).values()), field)

    def test_each_error_is_raised_somewhere(self):
        names = {name for name in vars(errors) if isinstance(getattr(errors, name), type)}
        self.assertEqual(names - {name for name, *_ in REFUSED}, {"StrokeError"})

    def test_each_error_is_directly_below_one(self):
        for name, kind in vars(errors).items():
            if isinstance(kind, type) and name != "StrokeError":
                self.assertEqual(kind.__bases__, (StrokeError,))

    def test_twice_the_same(self):
        for name, function, given, *_ in REFUSED:
            told = []
            for _ in range(2):
                try:
                    function(*given)
                except StrokeError as error:
                    told.append((type(error), vars(error)))
            self.assertEqual(told[0], told[1], name)


# Functions and methods with an argument that may be anything, and what is told of what is none.
SPLIT_PLAN = plan_of(SPLIT)
JUDGED = [
    (lambda thing: lots.is_lot(PLAN, thing), False), (lambda thing: lots.is_narrow(PLAN, thing), False),
    (lambda thing: drawing.is_frame(4, thing), False), (lambda thing: drawing.is_weights(PLAN, thing), False),
    (lambda thing: built.fault(PLAN, thing), ("form",)), (lambda thing: built.is_built(PLAN, thing), False),
    (lambda thing: moves.is_weights_of(PLAN, DRAWN, thing), False),
    (lambda thing: growing.is_growth(PLAN, thing), False),
    (lambda thing: healing.heals(PLAN, thing), False),
]
NAMED = [
    ("BadPlan", lambda thing: plans.Plan(thing, PLAN.walls, PLAN.rounds)),
    ("BadPlan", lambda thing: plans.Plan(4, thing, PLAN.rounds)),
    ("BadPlan", lambda thing: plans.Plan(4, PLAN.walls, thing)),
    ("NoNames", lambda thing: places.renamed(PLAN, thing)),
    ("NoWalls", lambda thing: lots.closed(plan_of(STAR), thing)),
    ("NoLot", lambda thing: lots.exits(plan_of(bare_sketch(3)), thing)),
    ("NoFrame", lambda thing: drawing.drawing(PLAN, thing, thing)),
    ("NoWeights", lambda thing: drawing.drawing(PLAN, FRAME, thing)),
    ("NoDrawing", lambda thing: built.areas(PLAN, thing)),
    ("NoDrawing", lambda thing: built.hit(PLAN, thing, thing)),
    ("NoPoint", lambda thing: built.hit(PLAN, DRAWN, thing)),
    ("NoDrawing", lambda thing: built.picture(PLAN, thing, thing, thing)),
    ("NoDrawing", lambda thing: moves.weights_of(PLAN, thing)),
    ("NoDrawing", lambda thing: moves.is_weights_of(PLAN, thing, thing)),
    ("NoWeights", lambda thing: moves.mixed(PLAN, EVEN, thing, thing)),
    ("NoMoment", lambda thing: moves.mixed(PLAN, EVEN, EVEN, thing)),
    ("NoDrawing", lambda thing: moves.lead(PLAN, DRAWN, thing, thing)),
    ("NoMoment", lambda thing: moves.lead(PLAN, DRAWN, DRAWN, thing)),
    ("NoRoom", lambda thing: editing.put(PLAN, thing, thing, thing)),
    ("NoSpot", lambda thing: editing.put(PLAN, 0, thing, thing)),
    ("NoSpot", lambda thing: editing.put(PLAN, 0, ("at", 0), thing)),
    ("NoWall", lambda thing: editing.strike(PLAN, thing)),
    ("NoPlace", lambda thing: editing.cut(PLAN, thing)),
    ("NoPlace", lambda thing: editing.join(PLAN, thing, thing, thing)),
    ("NoWall", lambda thing: editing.join(PLAN, 6, thing, thing)),
    ("NoWall", lambda thing: editing.join(PLAN, 6, 4, thing)),
    ("NoSides", lambda thing: growing.bare(thing)), ("NoSides", lambda thing: growing.grown(thing, thing)),
    ("NoGrowth", lambda thing: growing.grown(4, thing)), ("NoGrowth", lambda thing: growing.grown(4, (thing,))),
    ("NoPlaces", lambda thing: healing.after_cuts(PLAN, thing)), ("NoSides", lambda thing: desk.Desk(thing)),
    ("NoDeed", lambda thing: desk.Desk(4).do(thing)), ("NoFrame", lambda thing: desk.Desk(4).draw(thing)),
    ("NoDrawing", lambda thing: texts.drawing_text(thing)), ("NoPlace", lambda thing: places.lies_on(PLAN, thing)),
    ("NoPlace", lambda thing: places.walls_at(PLAN, thing)),
    ("NoNumber", lambda thing: built.picture(PLAN, DRAWN, thing, thing)),
    ("NoNumber", lambda thing: built.picture(PLAN, DRAWN, 9, thing)),
]


def strange():
    """Values that are none of what any function asks for."""
    return junk() + [deep(tuple), deep(list), deep(dict), (deep(tuple, 29),) * 8, [deep(list, 29)] * 8,
                     desk.Desk(3), (desk.Desk(4),), [PLAN], {"plan": PLAN}, {(1, (2, (3, "4"))): [None]},
                     (PLAN, PLAN), ("put", PLAN, PLAN, PLAN, PLAN), errors.NoGrowth([1]), (None,) * 4, ((),) * 8,
                     ((None, None),) * 8, (((0, 1), None),) * 8, tuple({0: 1} for _ in range(8)), 10 ** 29, -10 ** 29,
                     ((10 ** 29, 10 ** 29 - 1),) * 8]


class Anything(unittest.TestCase):
    def test_judged(self):
        for thing in strange():
            for function, wanted in JUDGED:
                # A few of the values are lots, as it happens.
                if wanted is False and thing in [(0,), (0, 1)]:
                    continue
                self.assertEqual(function(thing), wanted)

    def test_refused(self):
        for thing in strange():
            if thing in [(0,), (0, 1)]:
                continue
            for name, function in NAMED:
                with self.assertRaises(StrokeError) as caught:
                    function(thing)
                self.assertIs(type(caught.exception), getattr(errors, name))

    def test_nothing_is_changed(self):
        for thing in strange():
            if isinstance(thing, (StrokeError, desk.Desk)) or isinstance(thing, tuple) and thing and isinstance(
                    thing[0], desk.Desk):
                continue
            kept = copy.deepcopy(thing)
            for function in [function for function, _ in JUDGED] + [function for _, function in NAMED]:
                try:
                    function(thing)
                except StrokeError:
                    pass
            self.assertEqual(thing, kept)
        self.assertEqual(PLAN, plan_of(TEE))

    def test_strings_and_lists_to_read(self):
        for thing in strange():
            for function in (texts.read_plan, texts.read_drawing, journals.recovered):
                wanted = {"BadText", "NoJournal"} if isinstance(thing, str) else {"NoText"}
                if thing == "" and function is texts.read_drawing:
                    continue
                with self.assertRaises(StrokeError) as caught:
                    function(thing)
                self.assertIn(type(caught.exception).__name__, wanted)


class New(unittest.TestCase):
    def test_lists_are_new(self):
        for sketched in (TEE, HANGING, CROSSED_RING):
            plan = plan_of(sketched)
            frame = drawing.plain_frame(plan.sides)
            calls = [lambda: lots.all_lots(plan), lambda: lots.all_narrow(plan)]
            if lots.can_build(plan):
                made = drawing.drawing(plan, frame, drawing.even_weights(plan))
                calls.append(lambda: built.picture(plan, made, 9, 5))
            for call in calls:
                one, kept = call(), call()
                self.assertIsNot(one, kept)
                one.append(None)
                one.reverse()
                self.assertEqual(call(), kept)

    def test_desks_are_new(self):
        text = journals.journal(desk_of(("mirror",)))
        one, other = journals.recovered(text)[0], journals.recovered(text)[0]
        one.log().append(("mirror",))
        one.back()
        self.assertEqual((one.log(), other.log()), ([], [("mirror",)]))

    def test_an_error_keeps_what_it_was_made_with(self):
        chance = random.Random(1)
        for name in ("BadPlan", "TooMany", "Narrow", "NoGrowth", "BadText"):
            for thing in [chance.randint(0, 9), [1, [2]], {0: [1]}, None, desk.Desk(3)]:
                error = getattr(errors, name)(thing)
                self.assertIs(list(vars(error).values())[0], thing)


if __name__ == "__main__":
    unittest.main()
