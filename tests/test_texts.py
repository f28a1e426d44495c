"""Promise 16, and of 2 to 5 what they say of texts: texts of plans and of drawings, written and read."""

import copy
import random
import unittest
from fractions import Fraction

from samples import grown, pair, point, web_plan, weights_by_chance
from sketches import LENS, PINWHEEL, SPLIT, STAR, TEE, all_plans, bare, fan, junk, plan_of, turned
from threeexits.drawing import drawing, even_weights, plain_frame
from threeexits.errors import BadPlan, BadText, NoDrawing, NoText, StrokeError
from threeexits.lots import can_build
from threeexits.moves import lead
from threeexits.plans import Plan
from threeexits.texts import drawing_text, plan_text, read_drawing, read_plan

BIG = 10 ** 30 - 1
SPLIT_TEXT = """sides 4
wall 0 4 1
wall 1 2
wall 2 5 3
wall 3 0
wall 4 5
round 3 4
round 2 4
round 1 5
round 0 5
round 0 1 5
round 2 3 4
"""
LINES = SPLIT_TEXT.split("\n")[:-1]


def text_of(lines):
    return "".join(line + "\n" for line in lines)


def with_line(number, line):
    """The text of SPLIT with another line of this number."""
    return text_of(LINES[:number - 1] + [line] + LINES[number:])


def no_strings():
    things = [thing for thing in junk() if not isinstance(thing, str)]
    return things + [[SPLIT_TEXT], (SPLIT_TEXT,), LINES, {SPLIT_TEXT: 1}]


class Texts(unittest.TestCase):
    def assertBadText(self, read, text, line):
        with self.assertRaises(BadText) as caught:
            read(text)
        self.assertEqual(caught.exception.line, line, text[:200])

    def assertBadPlan(self, text, part):
        with self.assertRaises(BadPlan) as caught:
            read_plan(text)
        self.assertEqual(caught.exception.part, part)


class PlanText(Texts):
    def test_spelled_out(self):
        self.assertEqual(plan_text(plan_of(SPLIT)), SPLIT_TEXT)
        self.assertEqual(plan_text(plan_of(bare(3))),
                         "sides 3\nwall 0 1\nwall 1 2\nwall 2 0\nround 1 2\nround 0 2\nround 0 1\n")
        self.assertEqual(plan_text(plan_of(STAR)).split("\n")[-2], "round 0 1 2")

    def test_read_back(self):
        chance = random.Random(1)
        plans = [plan for _, plan in all_plans()] + [web_plan(chance) for _ in range(20)]
        plans += [grown(chance, sides, 40)[0] for sides in range(3, 9)]
        for plan in plans:
            text = plan_text(plan)
            self.assertIs(type(text), str)
            self.assertEqual(read_plan(text), plan)
            self.assertEqual(plan_text(read_plan(text)), text)
            self.assertEqual(text.count("\n"), 1 + len(plan.walls) + len(plan.rounds))


class ReadPlan(Texts):
    def test_in_other_orders(self):
        chance = random.Random(2)
        for sketched in (SPLIT, TEE, STAR, PINWHEEL, LENS, fan(37)):
            plan = plan_of(sketched)
            for _ in range(5):
                inner = [wall[::chance.choice((1, -1))] for wall in plan.walls[plan.sides:]]
                chance.shuffle(inner)
                rounds = [turned(ring, chance.randrange(len(ring))) for ring in plan.rounds]
                rows = [("sides", plan.sides)] + [("wall", *wall) for wall in list(plan.walls[:plan.sides]) + inner]
                rows += [("round", *ring) for ring in rounds]
                self.assertEqual(read_plan("".join(" ".join(map(str, row)) + "\n" for row in rows)), plan)

    def test_no_string(self):
        for thing in no_strings():
            self.assertRaises(NoText, read_plan, thing)

    def test_each_way_a_line_can_be_none(self):
        words = ["sides", "wall", "round"]
        for number, line in enumerate(LINES, 1):
            word, rest = line.split(" ", 1)
            others = ["", " ", line + " ", " " + line, line.replace(" ", "  ", 1), line[::-1], word, word + " ", rest,
                      word.upper() + " " + rest, word + "s " + rest, word[1:] + " " + rest, word + rest, "door " + rest,
                      word + " 0" + rest, word + " -" + rest, word + " +" + rest, word + " " + rest + " 00",
                      word + " " + rest + " 01", word + " " + rest + " 12345", word + " 10000 " + rest,
                      word + " " + rest + " -1", word + " " + rest + " x", word + " " + rest + " 1.0",
                      word + " " + rest + ",1", word + "\t" + rest, word + " " + rest + " 1_0", line + "\n",
                      word + " " + rest + " #1", word + " " + rest + " " + word, word + " " + rest + " " + "9" * 5000]
            for other in others:
                self.assertBadText(read_plan, with_line(number, other), number + (other == line + "\n"))

    def test_words_where_they_do_not_stand(self):
        self.assertBadText(read_plan, with_line(1, "wall 0 4 1"), 1)
        self.assertBadText(read_plan, with_line(1, "round 3 4"), 1)
        self.assertBadText(read_plan, with_line(2, "sides 4"), 2)
        self.assertBadText(read_plan, with_line(2, "round 3 4"), 2)
        self.assertBadText(read_plan, with_line(4, "sides 4"), 4)
        self.assertBadText(read_plan, with_line(4, "round 3 4"), 5)
        self.assertBadText(read_plan, with_line(8, "wall 0 5"), 8)
        self.assertBadText(read_plan, with_line(8, "sides 4"), 8)
        self.assertBadText(read_plan, with_line(12, "wall 0 5"), 12)
        self.assertBadText(read_plan, SPLIT_TEXT + "wall 0 5\n", 13)
        self.assertBadText(read_plan, SPLIT_TEXT + "sides 4\n", 13)
        self.assertBadText(read_plan, SPLIT_TEXT + "\n", 13)
        self.assertBadText(read_plan, SPLIT_TEXT + " ", 13)
        self.assertBadText(read_plan, SPLIT_TEXT + " \n", 13)
        self.assertBadText(read_plan, SPLIT_TEXT + "round 1 2", 13)
        self.assertBadText(read_plan, SPLIT_TEXT + SPLIT_TEXT, 13)
        self.assertBadText(read_plan, "\n" + SPLIT_TEXT, 1)

    def test_too_few_numbers(self):
        self.assertBadText(read_plan, with_line(1, "sides"), 1)
        self.assertBadText(read_plan, with_line(1, "sides 4 4"), 1)
        self.assertBadText(read_plan, with_line(5, "wall 3"), 5)
        self.assertBadText(read_plan, with_line(5, "wall"), 5)
        self.assertBadText(read_plan, with_line(7, "round"), 7)
        # One number is enough for a round, though for no place of a plan.
        self.assertBadPlan(with_line(7, "round 3"), "rounds")

    def test_a_text_cut_at_each_sign(self):
        for end in range(len(SPLIT_TEXT)):
            text = SPLIT_TEXT[:end]
            lines = text.count("\n")
            if text.endswith("\n") and lines > 6:
                self.assertBadPlan(text, "rounds")
            else:
                # The last line has no line feed, or lines are missing behind it.
                self.assertBadText(read_plan, text, lines + 1)

    def test_lines_that_are_missing(self):
        self.assertBadText(read_plan, "", 1)
        self.assertBadText(read_plan, "\n", 1)
        self.assertBadText(read_plan, "sides 4\n", 2)
        self.assertBadText(read_plan, "sides 4", 1)
        self.assertBadText(read_plan, "sides 4\nwall 0 1\n", 3)
        self.assertBadText(read_plan, "sides 4\nround 0 1\n", 2)
        self.assertBadText(read_plan, "sides 4\nwall 0 1\nround 1", 3)
        self.assertBadPlan("sides 4\nwall 0 1\nround 1\n", "walls")

    def test_lines_left_out_twice_or_exchanged(self):
        self.assertBadText(read_plan, text_of(LINES[1:]), 1)
        self.assertBadText(read_plan, text_of(LINES[:1] + LINES), 2)
        left_out = ["frame", "frame", "frame", "frame", "stars"] + ["rounds"] * 6
        twice = ["frame", "frame", "frame", "ties", "ties"] + ["rounds"] * 6
        for at in range(1, len(LINES)):
            self.assertBadPlan(text_of(LINES[:at] + LINES[at + 1:]), left_out[at - 1])
            self.assertBadPlan(text_of(LINES[:at] + LINES[at:at + 1] + LINES[at:]), twice[at - 1])
        self.assertBadText(read_plan, text_of(LINES[:1] + LINES[6:]), 2)
        self.assertBadText(read_plan, text_of(LINES[:6]), 7)
        self.assertBadText(read_plan, text_of(LINES[1:2] + LINES[:1] + LINES[2:]), 1)
        self.assertBadText(read_plan, text_of(LINES[:5] + LINES[6:7] + LINES[5:6] + LINES[7:]), 7)
        self.assertBadPlan(text_of(LINES[:6] + LINES[7:8] + LINES[6:7] + LINES[8:]), "rounds")

    def test_the_first_bad_line_is_told(self):
        self.assertBadText(read_plan, "sides 04\nwall\nround\n", 1)
        self.assertBadText(read_plan, "sides 4\nwall 0 1\nwall 2\nround", 3)
        self.assertBadText(read_plan, with_line(3, "wall 1 2 ") + "x", 3)

    def test_numbers(self):
        for good in ("0", "9", "10", "100", "9999", "1000"):
            self.assertBadPlan(with_line(1, "sides " + good), "sides")
            self.assertBadPlan(with_line(6, "wall 4 5 " + good), "walls" if good != "0" else "lies")
        for bad in ("00", "01", "09999", "10000", "99999", "1" * 4301, "1" * 15000, "", "-1", "-0", "+1", "1 ", "0x1",
                    "1e1", "a", "1-", ".", "/", ":", "1/1", "one"):
            self.assertBadText(read_plan, with_line(1, "sides " + bad), 1)
            self.assertBadText(read_plan, with_line(6, "wall 4 5 " + bad), 6)
            self.assertBadText(read_plan, with_line(12, "round 2 3 " + bad), 12)

    def test_bad_plans(self):
        self.assertBadPlan(with_line(1, "sides 2"), "sides")
        self.assertBadPlan(with_line(1, "sides 5"), "frame")
        self.assertBadPlan(with_line(6, "wall 4 4"), "walls")
        self.assertBadPlan(with_line(6, "wall 4 9"), "walls")
        self.assertBadPlan(with_line(3, "wall 2 1"), "frame")
        self.assertBadPlan(with_line(6, "wall 0 1"), "stars")
        self.assertBadPlan(with_line(6, "wall 0 4"), "ties")
        self.assertBadPlan(with_line(6, "wall 0 4 2"), "ties")
        self.assertBadPlan(with_line(12, "round 2 4 5"), "rounds")
        self.assertBadPlan(SPLIT_TEXT + "round 1 2\n", "rounds")
        self.assertBadPlan("\n".join(LINES[:-1]) + "\n", "rounds")
        self.assertBadPlan(with_line(12, "round 2 4 3"), "flat")
        # Lines are looked at before the plan is.
        self.assertBadText(read_plan, with_line(1, "sides 2") + "x", 13)
        self.assertBadText(read_plan, with_line(1, "sides 2")[:-1], 12)

    def test_long_texts(self):
        self.assertBadText(read_plan, "a" * 20000, 1)
        self.assertBadText(read_plan, "\n" * 20000, 1)
        self.assertBadText(read_plan, " " * 20000, 1)
        self.assertBadPlan("sides 3\n" + "wall 0 1\n" * 2000 + "round 1\n" * 200, "walls")
        self.assertBadPlan("sides 3\nwall" + " 0 1" * 4000 + "\nround 1\n", "walls")
        self.assertBadText(read_plan, "sides " + "1" * 19000 + "\n", 1)


class DrawingText(Texts):
    def test_spelled_out(self):
        self.assertEqual(drawing_text(()), "")
        self.assertEqual(drawing_text((((1, 2), (-3, 1)),)), "1/2 -3/1\n")
        self.assertEqual(drawing_text((((0, 1), (0, 1)), ((-1, 7), (BIG, BIG - 1)))),
                         f"0/1 0/1\n-1/7 {BIG}/{BIG - 1}\n")
        self.assertEqual(drawing_text(plain_frame(3)), "0/1 0/1\n1/1 1/1\n2/1 4/1\n")

    def test_read_back(self):
        chance = random.Random(3)
        rows = [(), plain_frame(8), ((pair(Fraction(-BIG, 2)), pair(Fraction(1, BIG))),)]
        for many in (1, 2, 50, 300):
            rows.append(tuple(point(Fraction(chance.randint(-99, 99), chance.randint(1, 99)),
                                    Fraction(-1, chance.randint(1, BIG))) for _ in range(many)))
        for _, plan in all_plans():
            if can_build(plan):
                rows.append(drawing(plan, plain_frame(plan.sides), even_weights(plan)))
        for plan in (plan_of(PINWHEEL), plan_of(STAR)):
            rows.append(drawing(plan, plain_frame(plan.sides), weights_by_chance(chance, plan, BIG)))
            rows.append(lead(plan, rows[-1], drawing(plan, plain_frame(plan.sides), even_weights(plan)), (1, BIG)))
        for row in rows:
            text = drawing_text(row)
            self.assertEqual(read_drawing(text), row)
            self.assertEqual(drawing_text(read_drawing(text)), text)
            self.assertEqual(text.count("\n"), len(row))

    def test_what_is_none(self):
        good = point(1, 2)
        bads = [(1, 2), ((1, 1),), ((1, 1), (2, 1), (3, 1)), [(1, 1), (2, 1)], ((1, 1), [2, 1]), ((1, 1), (2, 4)),
                ((1, 1), (0, 2)), ((2, 2), (1, 1)), ((1, -1), (1, 1)), ((1, 0), (1, 1)), ((True, 1), (1, 1)),
                ((1, 1), (1, True)), ((1, 1), None), None, "1/1 2/1", ((1, 1), "2/1"), (("1", "1"), (1, 1)),
                (), ((), ()),
                ((1,), (2,)), ((1, 1, 1), (1, 1)), 0, True, {0: 1}]
        for bad in bads:
            for thing in ((bad,), (good, bad), (bad, good), (good, good, bad)):
                self.assertRaises(NoDrawing, drawing_text, thing)
        for thing in junk() + [[], [good], {}, "", good, None, even_weights(plan_of(STAR)), plan_of(STAR)]:
            self.assertRaises(NoDrawing, drawing_text, thing)

    def test_numbers_of_many_digits(self):
        least, over = 10 ** 3999, 10 ** 4000
        for number in (least, over - 1, -least, 1 - over):
            text = drawing_text((((number, 1), (0, 1)),))
            self.assertEqual(read_drawing(text), (((number, 1), (0, 1)),))
            self.assertEqual(drawing_text(read_drawing(text)), text)
            self.assertEqual(len(text), 4000 + (number < 0) + len("/1 0/1\n"))
        for bottom in (least, over - 1):
            row = (((0, 1), (1, bottom)), ((-1, bottom), (bottom - 1, bottom)))
            self.assertEqual(read_drawing(drawing_text(row)), row)
        for number in (over, over + 1, -over, 10 ** 4300, -10 ** 5000, 10 ** 20000):
            for bad in (((number, 1), (0, 1)), ((0, 1), (number, 1))):
                self.assertRaises(NoDrawing, drawing_text, (bad,))
                self.assertRaises(NoDrawing, drawing_text, (point(0, 0), bad))
        for bottom in (over, over + 1, 10 ** 6000):
            self.assertRaises(NoDrawing, drawing_text, (((1, bottom), (0, 1)),))
            self.assertRaises(NoDrawing, drawing_text, (((0, 1), (-1, bottom)),))


class ReadDrawing(Texts):
    def test_spelled_out(self):
        self.assertEqual(read_drawing(""), ())
        self.assertEqual(read_drawing("1/2 -3/1\n"), (((1, 2), (-3, 1)),))
        self.assertEqual(read_drawing("0/1 0/1\n0/1 0/1\n"), (((0, 1), (0, 1)),) * 2)

    def test_no_string(self):
        for thing in no_strings():
            self.assertRaises(NoText, read_drawing, thing)

    def test_each_way_a_line_can_be_none(self):
        good = "1/2 -3/7\n"
        for bad in ["", " ", "1/2", "1/2 ", " 1/2", "1/2  3/1", " 1/2 3/1", "1/2 3/1 ", "1/2 3/1 5/1", "1/2\t3/1",
                    "1/2,3/1", "1 2", "1/2 3", "1/2 3/", "1/2 /3", "1/2 3/1/1", "1/2 3//1", "1/2 3/0", "1/2 0/2",
                    "1/2 2/4", "1/2 6/3",
                    "2/2 1/1", "1/2 -0/1", "1/2 00/1", "1/2 01/1", "1/2 1/01", "1/2 -01/1", "1/2 --1/1", "1/2 +1/1",
                    "1/2 1/-1", "1/2 -1/-1", "1/2 1/+1", "1/2 - 1/1", "1/2 -/1", "1/2 -2/4", "1/2 1.0/1", "1/2 1e1/1",
                    "1/2 a/1", "1/2 1/a", "1/2 1_0/1", "1/2 (1, 2)", "((1, 2), (1, 2))", "1/2 0/0", "0/1 -0/1",
                    "1/2 " + "1" * 4001 + "/1", "1/2 1/" + "1" * 4001, "-" + "1" * 4001 + "/1 1/2",
                    "1/2 1/0" + "1" * 4000,
                    "1/2 " + "9" * 12000 + "/1", "1/2 " + "0" * 12000 + "/1", "1/2 x", "x 1/2", "sides 4", "a" * 19000]:
            for number in range(4):
                self.assertBadText(read_drawing, good * number + bad + "\n" + good, number + 1)
                if bad != "":
                    self.assertBadText(read_drawing, good * number + bad, number + 1)

    def test_line_feeds(self):
        self.assertBadText(read_drawing, "1/2 1/2", 1)
        self.assertBadText(read_drawing, "1/2 1/2\n1/3 1/3", 2)
        self.assertBadText(read_drawing, "1/2 1/2\n\n", 2)
        self.assertBadText(read_drawing, "\n", 1)
        self.assertBadText(read_drawing, "\n1/2 1/2\n", 1)
        self.assertBadText(read_drawing, "1/2\n1/2\n", 1)
        self.assertBadText(read_drawing, "1/2 1/2 1/3 1/3\n", 1)
        self.assertBadText(read_drawing, "\n" * 20000, 1)

    def test_cut_at_each_sign(self):
        text = "1/2 -3/7\n-10/11 0/1\n"
        self.assertEqual(len(read_drawing(text)), 2)
        for end in range(len(text)):
            lines = text[:end].count("\n")
            if end == 0 or text[end - 1] == "\n":
                self.assertEqual(len(read_drawing(text[:end])), lines)
            else:
                self.assertBadText(read_drawing, text[:end], lines + 1)

    def test_numbers_of_many_digits(self):
        text = "1" * 4000 + "/1 -" + "9" * 4000 + "/1\n" + "1/1" + "0" * 3999 + " 0/1\n"
        found = read_drawing(text)
        self.assertEqual(found, (((int("1" * 4000), 1), (1 - 10 ** 4000, 1)), ((1, 10 ** 3999), (0, 1))))
        self.assertEqual(drawing_text(found), text)


class Handed(unittest.TestCase):
    def test_arguments_stay_as_they_were(self):
        for thing in junk() + [[[[1, 1], [2, 1]]]]:
            kept = copy.deepcopy(thing) if not isinstance(thing, StrokeError) else thing
            self.assertRaises(NoDrawing, drawing_text, thing)
            self.assertRaises((NoText, BadText), read_plan, thing)
            self.assertRaises((NoText, BadText), read_drawing, thing if thing != "" else None)
            self.assertEqual(thing, kept)

    def test_equal_calls_and_kinds_of_values(self):
        self.assertEqual(read_plan(SPLIT_TEXT), read_plan(SPLIT_TEXT))
        self.assertIs(type(read_plan(SPLIT_TEXT)), Plan)
        self.assertIs(type(read_drawing("1/2 1/2\n")), tuple)
        self.assertIs(type(drawing_text(())), str)


if __name__ == "__main__":
    unittest.main()
