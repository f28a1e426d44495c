"""Promise 17, and of 2 to 5 what they say of journals: journals of desks, and desks recovered from them."""

import copy
import random
import unittest

from sketches import SPLIT, TEE, bare, junk, plan_of
from test_desk import LENS_DEEDS, SPLIT_DEED, TEE_DEED, deed_by_chance, desk_behind
from threeexits.desk import Desk
from threeexits.errors import NoJournal, NothingDone, NoText, StrokeError
from threeexits.journals import journal, recovered
from threeexits.places import many_places, mirrored

TEE_JOURNAL = """desk 4 #221
put 0 in 0 1 in 2 3 #867
put 1 in 5 4 in 1 2 #1524
cut 6 #1716
mirror #1933
turn 1 2 3 0 4 5 6 7 #2746
"""


def checked(*rows):
    """The text of lines, with the checks that they must have."""
    text, last = "", 0
    for row in rows:
        numbers = [int(word) for word in row.split(" ") if word.isdigit() and len(word) < 4000]
        last = 31 * (len(row) + 1) + last + sum(at * number for at, number in enumerate(numbers, 1))
        last -= last // 99991 * 99991
        text += f"{row} #{last}\n"
    return text


def row_of(deed):
    """The words and numbers of a deed."""
    if deed[0] == "turn":
        deed = deed[:1] + deed[1]
    return " ".join(" ".join(map(str, part)) if isinstance(part, tuple) else str(part) for part in deed)


def tee_desk():
    return desk_behind(4, SPLIT_DEED, TEE_DEED, ("cut", 6), ("mirror",), ("turn", (1, 2, 3, 0, 4, 5, 6, 7)))


def desk_by_chance(chance, sides, many):
    desk = Desk(sides)
    for _ in range(many):
        try:
            desk.do(deed_by_chance(chance, desk.plan()))
        except StrokeError:
            pass
    return desk


class Journals(unittest.TestCase):
    def assertRecovered(self, text, desk, many):
        """Whether the desk behind as many of the deeds of this one is recovered; tells it."""
        found = recovered(text)
        self.assertIs(type(found), tuple)
        self.assertIs(type(found[0]), Desk)
        self.assertEqual(found[1], many)
        wanted = desk_behind(desk.corners(), *desk.log()[:many])
        self.assertEqual(found[0].plan(), wanted.plan())
        self.assertEqual(found[0].log(), wanted.log())
        self.assertEqual(found[0].corners(), desk.corners())
        return found[0]


class Written(Journals):
    def test_spelled_out(self):
        self.assertEqual(journal(tee_desk()), TEE_JOURNAL)
        for sides in range(3, 9):
            self.assertEqual(journal(Desk(sides)), f"desk {sides} #{217 + sides}\n")

    def test_each_deed(self):
        desk = desk_behind(3, *LENS_DEEDS)
        self.assertEqual(journal(desk), checked("desk 3", "put 0 in 0 1 in 1 2", "put 0 at 3 at 2", "put 2 at 4 in 2 3",
                                                "cut 5", "join 5 5 6"))
        desk = desk_behind(4, SPLIT_DEED, ("strike", 4), ("mirror",), ("turn", (3, 0, 1, 2)))
        self.assertEqual(journal(desk), checked("desk 4", "put 0 in 0 1 in 2 3", "strike 4", "mirror", "turn 3 0 1 2"))

    def test_behind_back(self):
        desk = tee_desk()
        rows = TEE_JOURNAL.split("\n")[:-1]
        while desk.log():
            self.assertEqual(journal(desk), "\n".join(rows) + "\n")
            desk.back()
            rows.pop()
        self.assertEqual(journal(desk), "desk 4 #221\n")
        desk.do(("mirror",))
        self.assertEqual(journal(desk), "desk 4 #221\nmirror #438\n")

    def test_by_chance(self):
        chance = random.Random(1)
        for many in range(12):
            desk = desk_by_chance(chance, 3 + many % 6, 40)
            text = journal(desk)
            self.assertEqual(text, checked(f"desk {desk.corners()}", *[row_of(deed) for deed in desk.log()]))
            self.assertEqual(journal(desk), text)
            self.assertEqual(journal(self.assertRecovered(text, desk, len(desk.log()))), text)

    def test_checks_that_are_lessened(self):
        desk = desk_behind(3, *[("mirror",)] * 1500)
        text = journal(desk)
        self.assertEqual(text, checked("desk 3", *["mirror"] * 1500))
        checks = [int(line.split("#")[1]) for line in text.split("\n")[:-1]]
        self.assertEqual(max(checks) < 99991, True)
        self.assertEqual(sum(later < earlier for earlier, later in zip(checks, checks[1:])), 3)
        self.assertRecovered(text, desk, 1500)

    def test_a_check_of_just_nothing(self):
        # Turns and mirrors whose checks come to just 99991: 0 is written there.
        turn = "turn 1 2 0"
        steps = [int(checked("desk 3", row).split("#")[-1]) - 220 for row in (turn, "mirror")]
        turns = [many for many in range(217) if (99991 - 220 - steps[0] * many) % steps[1] == 0][0]
        mirrors = (99991 - 220 - steps[0] * turns) // steps[1]
        text = checked("desk 3", *[turn] * turns, *["mirror"] * mirrors)
        self.assertTrue(text.endswith("\nmirror #0\n"))
        desk, many = recovered(text)
        self.assertEqual(many, turns + mirrors)
        self.assertEqual(journal(desk), text)
        self.assertEqual(recovered(text[:-2] + "99991\n")[1], many - 1)

    def test_desk_stays_as_it_was(self):
        desk = tee_desk()
        journal(desk)
        self.assertEqual((desk.plan(), desk.log()), (tee_desk().plan(), tee_desk().log()))


class Recovered(Journals):
    def test_cut_at_each_sign(self):
        desk = tee_desk()
        first = TEE_JOURNAL.index("\n") + 1
        for end in range(len(TEE_JOURNAL) + 1):
            text = TEE_JOURNAL[:end]
            if end < first:
                self.assertRaises(NoJournal, recovered, text)
            else:
                self.assertRecovered(text, desk, text.count("\n") - 1)

    def test_cut_at_each_sign_by_chance(self):
        chance = random.Random(2)
        for many in range(3):
            desk = desk_by_chance(chance, 3 + many, 14)
            text = journal(desk)
            for end in range(text.index("\n") + 1, len(text) + 1, 3):
                self.assertRecovered(text[:end], desk, text[:end].count("\n") - 1)

    def test_goes_on_from_there(self):
        desk, many = recovered(TEE_JOURNAL)
        self.assertEqual(many, 5)
        for left in range(4, -1, -1):
            desk.back()
            self.assertEqual(len(desk.log()), left)
        self.assertRaises(NothingDone, desk.back)
        self.assertEqual(desk.plan(), plan_of(bare(4)))
        desk.do(SPLIT_DEED)
        self.assertEqual(desk.plan(), plan_of(SPLIT))
        self.assertEqual(desk.changed(), (4, 5))
        self.assertEqual(journal(desk), "\n".join(TEE_JOURNAL.split("\n")[:2]) + "\n")
        other, _ = recovered(journal(desk))
        other.do(TEE_DEED)
        self.assertEqual((other.plan(), desk.plan()), (plan_of(TEE), plan_of(SPLIT)))

    def test_a_sign_changed(self):
        desk = tee_desk()
        first = TEE_JOURNAL.index("\n") + 1
        for at, sign in enumerate(TEE_JOURNAL):
            for other in "#0 9x\n-A":
                if other != sign:
                    text = TEE_JOURNAL[:at] + other + TEE_JOURNAL[at + 1:]
                    if at < first:
                        self.assertRaises(NoJournal, recovered, text)
                    else:
                        self.assertRecovered(text, desk, TEE_JOURNAL[:at].count("\n") - 1)

    def test_a_sign_more_or_less(self):
        desk = tee_desk()
        first = TEE_JOURNAL.index("\n") + 1
        for at in range(first, len(TEE_JOURNAL)):
            many = TEE_JOURNAL[:at].count("\n") - 1
            text = TEE_JOURNAL[:at] + TEE_JOURNAL[at + 1:]
            if TEE_JOURNAL[at] != "\n" or text.endswith(" #2746"):
                self.assertRecovered(text, desk, many)
            for sign in " 0#\n":
                # A line feed more, behind another one, leaves the lines ahead as they were.
                text = TEE_JOURNAL[:at] + sign + TEE_JOURNAL[at:]
                done = recovered(text)[1]
                self.assertEqual(done, many + (sign == "\n" == TEE_JOURNAL[at]))

    def test_lines_left_out_twice_or_exchanged(self):
        desk = tee_desk()
        rows = [row + "\n" for row in TEE_JOURNAL.split("\n")[:-1]]
        for at in range(1, len(rows)):
            self.assertRecovered("".join(rows[:at] + rows[at + 1:]), desk, at - 1)
            self.assertRecovered("".join(rows[:at + 1] + rows[at:]), desk, at)
            for later in range(at + 1, len(rows)):
                others = list(rows)
                others[at], others[later] = others[later], others[at]
                self.assertRecovered("".join(others), desk, at - 1)
        self.assertRecovered(rows[0] * 2, desk, 0)
        self.assertRaises(NoJournal, recovered, "".join(rows[1:]))
        self.assertRaises(NoJournal, recovered, "".join(rows[1:2] + rows[:1]))
        self.assertRecovered(rows[0] + "\n" + "".join(rows[1:]), desk, 0)
        self.assertRecovered(TEE_JOURNAL + "\n", desk, 5)
        self.assertRecovered(TEE_JOURNAL + TEE_JOURNAL, desk, 5)

    def test_a_check_that_is_wrong(self):
        desk = tee_desk()
        rows = TEE_JOURNAL.split("\n")[:-1]
        for at in range(1, len(rows)):
            head, check = rows[at].split("#")
            for other in (int(check) + 1, int(check) - 1, int(check) + 99991, int(check) - 99991, 0, "0" + check, "",
                          " " + check, check + " ", "+" + check, "-" + check, check + ".0", "1" * 5000):
                text = "\n".join(rows[:at] + [f"{head}#{other}"] + rows[at + 1:]) + "\n"
                self.assertRecovered(text, desk, at - 1)

    def test_lines_that_are_no_deeds(self):
        # Their checks are right, but what they tell is no deed, or none that can be done.
        for row in ["back", "door 0", "put", "put 0", "put 0 at 0", "put 0 at 0 at 0 at 1", "put 0 at 0 in 1",
                    "put 0 at 0 1 in 1 2", "put 0 0 at 2", "put at 0 at 2", "put at 0 at 2 0", "put 0 at 0 at",
                    "put 0 on 0 at 2", "put 0 at at 0 2", "strike", "strike 4 4", "strike at 4", "strike 4", "cut",
                    "cut 4", "cut 0 0", "cut at 0", "join 4 5", "join 4 4 5", "join", "join 4 4 5 5", "mirror 0",
                    "mirrored", "turn", "turn 0 1 2", "turn 3 2 1 0", "turn 0 1 2 3 4", "turn at 0 1 2 3",
                    "turn 0 at 1 2 3", "desk 4", "put 1 at 0 at 2", "put 0 at 0 at 1", "put 0 at 0 in 1 0",
                    "put 0 in 0 1 in 0 1", "put 00 at 0 at 2", "put 0 at 00 at 2", "turn 1 2 3 00", "", " mirror",
                    "mirror ", "put 0  at 0 at 2", "Mirror", "MIRROR", "put 0 at 0 at -2", "put 0 at 0 at +2",
                    "put 0 at 0 at 2 ", "put 10000 at 0 at 2", "cut 99999", "strike 12345", "turn 0 1 2 10000",
                    "put 0 at 0 at " + "1" * 5000]:
            text = checked("desk 4", row)
            found, many = recovered(text + "mirror #1\n")
            self.assertEqual((many, found.log()), (0, []), row)
            self.assertEqual(found.plan(), plan_of(bare(4)))
            text = checked("desk 4", "mirror", row, "mirror")
            found, many = recovered(text)
            self.assertEqual((many, found.log()), (1, [("mirror",)]), row)
            self.assertEqual(found.plan(), mirrored(plan_of(bare(4))))
        self.assertEqual(recovered(checked("desk 4", "put 0 at 0 at 2", "turn 1 2 3 0"))[1], 2)

    def test_other_forms_of_a_line(self):
        good = checked("desk 4", "mirror").split("\n")[1]
        self.assertEqual(good, "mirror #438")
        for bad in ("mirror 438", "mirror#438", "mirror  #438", "mirror # 438", "mirror #438 ", " mirror #438",
                    "mirror ##438", "#438", "mirror #438#", "mirror #", "mirror", "mirror #438 #438", "mirror #0438"):
            self.assertEqual(recovered(f"desk 4 #221\n{bad}\n")[1], 0, bad)
        self.assertEqual(recovered(f"desk 4 #221\n{good}\n")[1], 1)
        self.assertEqual(recovered(f"desk 4 #221\n{good}")[1], 0)

    def test_what_cannot_be_done_any_more(self):
        text = checked("desk 4", "put 0 in 0 1 in 2 3", "strike 4", "strike 4", "mirror")
        desk, many = recovered(text)
        self.assertEqual((many, len(desk.log())), (2, 2))
        text = checked("desk 4", "put 0 in 0 1 in 2 3", "put 1 in 5 4 in 1 2", "strike 4", "mirror")
        desk, many = recovered(text)
        self.assertEqual((many, desk.plan()), (2, plan_of(TEE)))

    def test_no_journal(self):
        for text in ["", "\n", "desk", "desk 4", "desk 4\n", "desk 4 #221", "desk 4 #222\n", "desk 4 #220\n",
                     "desk 4 #0221\n", "desk 4 #100212\n", "desk 2 #219\n", "desk 9 #226\n", "desk 0 #217\n",
                     "desk 10 #258\n", "desk 04 #252\n", "desk  4 #252\n", " desk 4 #252\n", "desk 4  #252\n",
                     "desk 4 # 221\n", "desk 4 #221 \n", "Desk 4 #221\n", "desks 4 #252\n", "sides 4 #252\n",
                     "desk 4 4 #295\n", "desk #186\n", "desk -4 #248\n", "desk 4 221\n", "desk 4#221\n",
                     "\ndesk 4 #221\n", "mirror #217\n", "desk 12345 #12690\n", "a" * 20000, "\n" * 20000,
                     checked("desk 2"), checked("desk 9"), checked("desk 4 4"), checked("mirror"), checked("desk 04"),
                     checked("desk"), checked("desk " + "1" * 5000),
                     "desk 4 #" + "2" * 10000 + "\n"]:
            self.assertRaises(NoJournal, recovered, text)
        for sides in range(3, 9):
            self.assertEqual(recovered(f"desk {sides} #{217 + sides}\n")[1], 0)

    def test_no_text(self):
        for thing in [thing for thing in junk() if not isinstance(thing, str)] + [
                [TEE_JOURNAL], (TEE_JOURNAL,), {TEE_JOURNAL: 1}, TEE_JOURNAL.split("\n"), Desk(4)]:
            kept = copy.deepcopy(thing) if not isinstance(thing, (StrokeError, Desk)) else thing
            self.assertRaises(NoText, recovered, thing)
            self.assertEqual(thing, kept)

    def test_equal_calls(self):
        one, other = recovered(TEE_JOURNAL), recovered(TEE_JOURNAL)
        self.assertEqual((one[0].plan(), one[0].log(), one[1]), (other[0].plan(), other[0].log(), other[1]))
        one[0].do(("mirror",))
        self.assertEqual(len(other[0].log()), 5)
        self.assertEqual(many_places(other[0].plan()), 8)


if __name__ == "__main__":
    unittest.main()
