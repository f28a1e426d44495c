"""Promise 15, and of 2 to 5 what they say of desks: live plans, deeds, and taking them back."""

import copy
import random
import unittest

from edits import inner_places, spots_of, stars_of
from samples import convex, point
from sketches import LENS, SPLIT, TEE, bare, deep, fan, junk, plan_of
from threeexits.built import is_built
from threeexits.desk import Desk
from threeexits.drawing import drawing, even_weights, plain_frame
from threeexits.editing import cut, join, put, strike
from threeexits.errors import (BadPlan, Full, Narrow, NoDeed, NoFrame, NoNames, NoPlace, NoRoom, NoSides, NoSpot,
                               NotCut, NothingDone, NotJoined, NoWall, SameWall, StrokeError)
from threeexits.lots import can_build, is_narrow, narrow
from threeexits.places import many_places, mirrored, renamed, rooms
from threeexits.plans import Plan

SPLIT_DEED = ("put", 0, ("in", 0, 1), ("in", 2, 3))
TEE_DEED = ("put", 1, ("in", 5, 4), ("in", 1, 2))
# The plan behind the last one has a narrow lot: places 3 and 4 are joined by two walls.
LENS_DEEDS = (("put", 0, ("in", 0, 1), ("in", 1, 2)), ("put", 0, ("at", 3), ("at", 2)),
              ("put", 2, ("at", 4), ("in", 2, 3)), ("cut", 5), ("join", 5, 5, 6))


def desk_behind(sides, *deeds):
    desk = Desk(sides)
    for deed in deeds:
        desk.do(deed)
    return desk


def behind(plan, deed):
    """The plan behind a deed, by the functions that the deed names."""
    word, *rest = deed
    functions = {"put": put, "strike": strike, "cut": cut, "join": join, "mirror": mirrored, "turn": renamed}
    return functions[word](plan, *rest)


def deed_by_chance(chance, plan):
    """A deed that could be done, or not."""
    word = chance.choice(("put", "put", "put", "strike", "cut", "join", "mirror", "turn"))
    if word == "put":
        room = chance.randrange(len(rooms(plan)))
        return (word, room, *[chance.choice(spots_of(rooms(plan)[room])) for _ in range(2)])
    if word == "strike":
        return word, chance.randrange(len(plan.walls))
    if word == "cut":
        return word, chance.choice(inner_places(plan) or [0])
    if word == "join":
        star = chance.choice(stars_of(plan) or [0])
        ending = [number for number, wall in enumerate(plan.walls) if star in wall]
        return (word, star, *chance.sample(ending, 2))
    if word == "mirror":
        return (word,)
    by = chance.randrange(plan.sides)
    inner = list(range(plan.sides, many_places(plan)))
    chance.shuffle(inner)
    return word, tuple((corner + by) % plan.sides for corner in range(plan.sides)) + tuple(inner)


def no_deeds():
    """What is no deed at all."""
    return [thing for thing in junk()] + [
        (), ("put",), ("put", 0), ("put", 0, ("at", 0)), ("put", 0, ("at", 0), ("in", 1, 2), 0), ("strike",),
        ("strike", 4, 4), ("cut",), ("cut", 4, 4), ("join",), ("join", 4, 4), ("join", 4, 4, 5, 6), ("mirror", 0),
        ("mirror", None), ("turn",), ("turn", 1, 2, 3, 0), ("Put", 0, ("at", 0), ("at", 2)), ("PUT", 0, 0, 0),
        ("bare", 3),
        ("back",), ("do",), ("grow", 0), ("", 0), ("cut ", 4), (" cut", 4), ("mirrored",), ("renamed", (0, 1, 2, 3)),
        ["put", 0, ("at", 0), ("at", 2)], ["mirror"], [], "mirror", "cut 4", {"mirror": ()}, {0: "mirror"}, None,
        (("mirror",),), (["mirror"],), (None,), (0, "mirror"), (True,), (("cut", 4),), ({"cut": 4},), (("cut",), 4)]


class Deeds(unittest.TestCase):
    def test_bare(self):
        for sides in range(3, 9):
            desk = Desk(sides)
            self.assertEqual(desk.plan(), plan_of(bare(sides)))
            self.assertEqual(desk.corners(), sides)
            self.assertEqual(desk.log(), [])
            self.assertIs(desk.narrow(), None)

    def test_no_sides(self):
        for thing in junk() + [2, 9, 0, -3, (3,), [3], "3", deep(dict)]:
            self.assertRaises(NoSides, Desk, thing)

    def test_each(self):
        desk = Desk(4)
        self.assertIs(desk.do(SPLIT_DEED), None)
        self.assertEqual(desk.plan(), plan_of(SPLIT))
        desk.do(TEE_DEED)
        self.assertEqual(desk.plan(), plan_of(TEE))
        self.assertIs(desk.do(("cut", 6)), None)
        self.assertEqual(desk.plan(), cut(plan_of(TEE), 6))
        self.assertIs(desk.do(("join", 6, 4, 5)), None)
        self.assertEqual(desk.plan(), plan_of(TEE))
        self.assertIs(desk.do(("mirror",)), None)
        self.assertEqual(desk.plan(), mirrored(plan_of(TEE)))
        names = (1, 2, 3, 0, 4, 5, 7, 6)
        self.assertIs(desk.do(("turn", names)), None)
        self.assertEqual(desk.plan(), renamed(mirrored(plan_of(TEE)), names))
        self.assertIs(desk.do(("strike", desk.plan().walls.index((6, 7)))), None)
        self.assertEqual(len(desk.plan().walls), 5)
        self.assertEqual([deed[0] for deed in desk.log()], ["put", "put", "cut", "join", "mirror", "turn", "strike"])
        self.assertEqual(desk.log()[:4], [SPLIT_DEED, TEE_DEED, ("cut", 6), ("join", 6, 4, 5)])
        self.assertEqual(desk.corners(), 4)

    def test_by_the_functions(self):
        chance = random.Random(1)
        words = set()
        for many in range(12):
            desk = Desk(3 + many % 6)
            plans, log = [desk.plan()], []
            for _ in range(40):
                deed = deed_by_chance(chance, desk.plan())
                try:
                    found, error = behind(desk.plan(), deed), None
                except StrokeError as caught:
                    found, error = None, type(caught)
                if error is None:
                    self.assertIs(desk.do(deed), None)
                    plans.append(found)
                    log.append(deed)
                    words.add(deed[0])
                else:
                    self.assertRaises(error, desk.do, deed)
                self.assertEqual(desk.plan(), plans[-1])
                self.assertEqual(desk.log(), log)
                if chance.random() < 0.2 and log:
                    self.assertIs(desk.back(), None)
                    plans.pop()
                    log.pop()
                    self.assertEqual((desk.plan(), desk.log()), (plans[-1], log))
            while log:
                plans.pop()
                log.pop()
                desk.back()
                self.assertEqual((desk.plan(), desk.log()), (plans[-1], log))
            self.assertRaises(NothingDone, desk.back)
            self.assertEqual(desk.plan(), plan_of(bare(desk.corners())))
        self.assertEqual(words, {"put", "strike", "cut", "join", "mirror", "turn"})

    def test_led_by_puts_alone(self):
        chance = random.Random(2)
        for sides in range(3, 9):
            desk = Desk(sides)
            for _ in range(25):
                room = chance.randrange(len(rooms(desk.plan())))
                try:
                    desk.do(("put", room, *[chance.choice(spots_of(rooms(desk.plan())[room])) for _ in range(2)]))
                except (SameWall, Full):
                    pass
            self.assertIs(desk.narrow(), None)
            frame = tuple(point(*spot) for spot in convex(chance, sides))
            self.assertTrue(is_built(desk.plan(), desk.draw(frame)))


class Refused(unittest.TestCase):
    def assertRefused(self, desk, error, deed):
        plan, log = desk.plan(), desk.log()
        with self.assertRaises(StrokeError) as caught:
            desk.do(deed)
        self.assertIs(type(caught.exception), error, deed)
        self.assertEqual(desk.plan(), plan)
        self.assertEqual(desk.log(), log)
        return caught.exception

    def test_no_deeds(self):
        for desk in (Desk(4), desk_behind(4, SPLIT_DEED, TEE_DEED)):
            for thing in no_deeds():
                kept = copy.deepcopy(thing) if not isinstance(thing, StrokeError) else thing
                self.assertRefused(desk, NoDeed, thing)
                self.assertEqual(thing, kept)

    def test_what_the_functions_refuse(self):
        desk = desk_behind(4, SPLIT_DEED, TEE_DEED, ("cut", 6))
        self.assertEqual(desk.plan().walls[4:], ((4, 6), (5, 6), (6, 7)))
        for error, deed in [
                (NoRoom, ("put", 3, ("at", 0), ("at", 5))), (NoRoom, ("put", None, None, None)),
                (NoSpot, ("put", 0, ("at", 1), ("at", 5))), (NoSpot, ("put", 0, ("at", 0), None)),
                (NoSpot, ("put", 0, ["at", 0], ("at", 5))), (SameWall, ("put", 0, ("at", 0), ("at", 4))),
                (NoWall, ("strike", 3)), (NoWall, ("strike", 7)), (NoWall, ("strike", None)),
                (NoWall, ("strike", True)),
                (BadPlan, ("strike", 4)), (NoPlace, ("cut", 8)), (NoPlace, ("cut", (6,))), (NotCut, ("cut", 6)),
                (NotCut, ("cut", 4)), (NoPlace, ("join", 8, 4, 5)), (NoWall, ("join", 6, 3, 5)),
                (NoWall, ("join", 6, 4, None)), (NotJoined, ("join", 6, 4, 4)), (NotJoined, ("join", 7, 4, 5)),
                (NoNames, ("turn", None)), (NoNames, ("turn", (0, 1, 2, 3))),
                (NoNames, ("turn", [0, 1, 2, 3, 4, 5, 6, 7])),
                (NoNames, ("turn", (3, 2, 1, 0, 4, 5, 6, 7))), (NoNames, ("turn", ()))]:
            found = self.assertRefused(desk, error, deed)
            if error is BadPlan:
                self.assertEqual(found.part, "stars")
        for thing in junk():
            for word in ("put", "strike", "cut", "join", "turn"):
                many = {"put": 3, "join": 3}.get(word, 1)
                error = {"put": NoRoom, "strike": NoWall, "cut": NoPlace, "join": NoPlace, "turn": NoNames}[word]
                self.assertRefused(desk, error, (word,) + (thing,) * many)

    def test_full(self):
        desk = Desk(3)
        for many in range(37):
            room = [number for number, rim in enumerate(rooms(desk.plan())) if 2 in rim][0]
            desk.do(("put", room, ("at", 0), ("in", 2 + many if many else 1, 2)))
        self.assertEqual(len(desk.plan().walls), 40)
        room = [number for number, rim in enumerate(rooms(desk.plan())) if 2 in rim][0]
        self.assertRefused(desk, Full, ("put", room, ("at", 0), ("in", 39, 2)))
        self.assertEqual(len(desk.log()), 37)
        desk.back()
        self.assertEqual(len(desk.plan().walls), 39)

    def test_nothing_done(self):
        desk = Desk(5)
        self.assertRaises(NothingDone, desk.back)
        desk.do(("mirror",))
        desk.back()
        self.assertRaises(NothingDone, desk.back)
        self.assertEqual((desk.plan(), desk.log()), (plan_of(bare(5)), []))
        self.assertRaises(NoDeed, desk.do, None)
        self.assertRaises(NothingDone, desk.back)


class Told(unittest.TestCase):
    def test_log_is_new_each_time(self):
        desk = desk_behind(4, SPLIT_DEED, TEE_DEED)
        log = desk.log()
        self.assertIs(type(log), list)
        self.assertIsNot(log, desk.log())
        log.append(("mirror",))
        log[0] = None
        self.assertEqual(desk.log(), [SPLIT_DEED, TEE_DEED])
        desk.back()
        self.assertEqual(desk.log(), [SPLIT_DEED])
        desk.log().clear()
        self.assertEqual(desk.log(), [SPLIT_DEED])
        self.assertEqual(log, [None, TEE_DEED, ("mirror",)])

    def test_plans_stay_as_they_were(self):
        desk = desk_behind(4, SPLIT_DEED)
        plan = desk.plan()
        desk.do(TEE_DEED)
        self.assertEqual(plan, plan_of(SPLIT))
        desk.back()
        self.assertEqual(desk.plan(), plan)

    def test_copies_go_on_apart(self):
        desk = desk_behind(4, SPLIT_DEED)
        other = desk.copy()
        self.assertIs(type(other), Desk)
        self.assertEqual((other.plan(), other.log(), other.corners()), (desk.plan(), desk.log(), 4))
        other.do(TEE_DEED)
        self.assertEqual((desk.plan(), desk.log()), (plan_of(SPLIT), [SPLIT_DEED]))
        self.assertEqual((other.plan(), other.log()), (plan_of(TEE), [SPLIT_DEED, TEE_DEED]))
        desk.do(("mirror",))
        self.assertEqual(other.log(), [SPLIT_DEED, TEE_DEED])
        desk.back()
        desk.back()
        self.assertRaises(NothingDone, desk.back)
        self.assertEqual(other.plan(), plan_of(TEE))
        other.back()
        other.back()
        self.assertRaises(NothingDone, other.back)
        self.assertEqual(other.plan(), desk.plan())
        third = Desk(6).copy()
        third.do(("put", 0, ("at", 0), ("at", 3)))
        self.assertEqual(third.changed(), ())

    def test_narrow_and_draw(self):
        desk = desk_behind(4, SPLIT_DEED, TEE_DEED)
        frame = plain_frame(4)
        self.assertIs(desk.narrow(), None)
        self.assertEqual(desk.draw(frame), drawing(plan_of(TEE), frame, even_weights(plan_of(TEE))))
        square = tuple(point(right, up) for right, up in ((0, 0), (6, 0), (6, 6), (0, 6)))
        self.assertEqual(desk.draw(square)[6:], (point(3, 3), point(6, 3)))
        for thing in junk() + [plain_frame(3), frame[::-1], list(frame), (), None]:
            self.assertRaises(NoFrame, desk.draw, thing)
        self.assertEqual(desk.log(), [SPLIT_DEED, TEE_DEED])

    def test_with_a_narrow_lot(self):
        desk = desk_behind(3, *LENS_DEEDS)
        lot = narrow(desk.plan())
        self.assertTrue(is_narrow(desk.plan(), lot))
        self.assertEqual(desk.narrow(), lot)
        with self.assertRaises(Narrow) as caught:
            desk.draw(plain_frame(3))
        self.assertEqual(caught.exception.lot, lot)
        for thing in (None, plain_frame(4), plain_frame(3)[::-1], junk()):
            self.assertRaises(NoFrame, desk.draw, thing)
        desk.back()
        self.assertIs(desk.narrow(), None)
        self.assertTrue(is_built(desk.plan(), desk.draw(plain_frame(3))))


class Changed(unittest.TestCase):
    def changed_by_drawings(self, desk, ahead):
        plan = desk.plan()
        if not can_build(ahead) or not can_build(plan):
            return None
        frame = plain_frame(plan.sides)
        stood = drawing(ahead, frame, even_weights(ahead))
        now = drawing(plan, frame, even_weights(plan))
        return tuple(place for place in range(many_places(plan)) if now[place] not in stood)

    def test_empty_log(self):
        self.assertIs(Desk(4).changed(), None)
        desk = desk_behind(4, SPLIT_DEED)
        desk.back()
        self.assertIs(desk.changed(), None)

    def test_spelled_out(self):
        desk = desk_behind(4, SPLIT_DEED)
        self.assertEqual(desk.changed(), (4, 5))
        desk.do(TEE_DEED)
        self.assertEqual(desk.changed(), (6, 7))
        # The foot of the tee is where it was ahead of the cut, but for its star.
        desk.do(("cut", 6))
        self.assertEqual(desk.changed(), (6,))
        desk.back()
        self.assertEqual(desk.changed(), (6, 7))
        desk.do(("strike", 5))
        self.assertEqual(desk.changed(), ())

    def test_a_put_that_moves_others(self):
        desk = desk_behind(4, SPLIT_DEED, ("put", 1, ("in", 1, 2), ("in", 5, 4)))
        self.assertEqual(desk.changed(), (6, 7))
        # Half of the lower wall is parted once more, so place 4 moves and what hangs on it.
        self.assertEqual(rooms(desk.plan())[1], (1, 6, 7, 4))
        desk.do(("put", 1, ("in", 4, 1), ("in", 6, 7)))
        self.assertEqual(desk.changed(), (4, 7, 8, 9))
        self.assertEqual(desk.changed(), self.changed_by_drawings(desk, desk_behind(4, *desk.log()[:-1]).plan()))

    def test_places_that_change_their_names(self):
        desk = desk_behind(4, SPLIT_DEED, TEE_DEED)
        # By the plain frame the corners stand where they stood, and the others elsewhere.
        desk.do(("mirror",))
        self.assertEqual(desk.changed(), self.changed_by_drawings(desk, plan_of(TEE)))
        desk.do(("turn", (0, 1, 2, 3, 7, 6, 5, 4)))
        self.assertEqual(desk.changed(), ())
        desk.do(("turn", (1, 2, 3, 0, 4, 5, 6, 7)))
        self.assertTrue(desk.changed())
        self.assertTrue(min(desk.changed()) > 3)

    def test_narrow_lots(self):
        desk = desk_behind(3, *LENS_DEEDS[:-1])
        self.assertIsNot(desk.changed(), None)
        desk.do(LENS_DEEDS[-1])
        self.assertIs(desk.changed(), None)
        desk.do(("cut", 5))
        # This plan has no narrow lot, but the one ahead has.
        self.assertIs(desk.narrow(), None)
        self.assertIs(desk.changed(), None)
        desk.do(("mirror",))
        self.assertIsNot(desk.changed(), None)
        desk.back()
        desk.back()
        self.assertIs(desk.changed(), None)
        desk.back()
        self.assertIsNot(desk.changed(), None)

    def test_by_drawings(self):
        chance = random.Random(3)
        told = set()
        for many in range(18):
            desk = Desk(3 + many % 6)
            ahead = None
            for _ in range(16):
                deed = deed_by_chance(chance, desk.plan())
                plan = desk.plan()
                try:
                    desk.do(deed)
                    ahead = plan
                except StrokeError:
                    pass
                if ahead is not None:
                    wanted = self.changed_by_drawings(desk, ahead)
                    self.assertEqual(desk.changed(), wanted)
                    told.add((desk.log()[-1][0], bool(wanted)))
        self.assertTrue({("put", True), ("cut", True), ("mirror", True), ("turn", True), ("mirror", False),
                         ("turn", False), ("strike", True)} <= told, told)

    def test_kinds_of_values(self):
        desk = desk_behind(4, SPLIT_DEED)
        self.assertIs(type(desk.changed()), tuple)
        self.assertIs(type(desk.draw(plain_frame(4))), tuple)
        self.assertIs(type(desk.plan()), Plan)
        self.assertEqual(desk.changed(), desk.changed())


class LensDeeds(unittest.TestCase):
    def test_they_lead_to_a_lens(self):
        plan = desk_behind(3, *LENS_DEEDS).plan()
        self.assertFalse(can_build(plan))
        self.assertFalse(can_build(plan_of(LENS)))
        self.assertTrue(can_build(plan_of(fan(3))))


if __name__ == "__main__":
    unittest.main()
