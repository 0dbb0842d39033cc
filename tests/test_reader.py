"""The sheet of a text, its errors in their sequence, arrivals, and texts that tell one sheet."""

import unittest

from allreadings.errors import BadText, IdleSensor, LackingStatement, TakenName, TooMany, UnknownName, WrongMoment
from allreadings.reader import arrivals, is_sheet_text, read_sheet, tell_one
from allreadings.worlds import is_readings, is_world
from allreadings.writer import tidy_text
from tests.made import STRANGE

FRAME = "unknowns x y\nmoments 3\n"


def attributes(error):
    return (type(error), *vars(error).values())


class Sheets(unittest.TestCase):
    def test_all_kinds(self):
        text = "\n".join([
            "reading r2 b at 2 = -3/6   # told ahead of its sensor", "ask x at 2 + 2 x at 0 - x at 2 >= 3",
            "steps x' - x <= y'", "start 2 x - 3 = 4 y + 1 - x", "step 1: y' >= 2", "moments 3", "unknowns x y",
            "step 0: 0 x <= 0", "sensor b: 2 x - y + x slack 6/4", "steps x = y", "start 1 <= 0",
            "sensor a2: -y slack 0", "reading r1 b at 0 = 4", "ask y at 1 - x at 0 <= -7 + 1",
            "ask 0 x at 1 <= 3", "start 2 x <= 4"])
        sheet = (
            ["x", "y"],
            (2, 3, [((3, -4), 4), ((-3, 4), -4), ((0, 0), -1), ((2, 0), 4)],
             [[((-1, 0, 1, -1), 0), ((0, 0, 0, 0), 0), ((1, -1, 0, 0), 0), ((-1, 1, 0, 0), 0)],
              [((-1, 0, 1, -1), 0), ((0, 0, 0, -1), -2), ((1, -1, 0, 0), 0), ((-1, 1, 0, 0), 0)]],
             [("b", (3, -1), (3, 2)), ("a2", (0, -1), (0, 1))]),
            [("r2", "b", 2, (-1, 2)), ("r1", "b", 0, (4, 1))],
            [([(0, (-2, 0))], -3), ([(0, (-1, 0)), (1, (0, 1))], -6), ([], 3)])
        self.assertEqual(read_sheet(text=text), sheet)
        self.assertIs(is_sheet_text(text), True)
        self.assertTrue(is_world(sheet[1]) and is_readings(sheet[1], sheet[2]))

    def test_least(self):
        self.assertEqual(read_sheet("unknowns x\nmoments 1"), (["x"], (1, 1, [], [], []), [], []))
        self.assertEqual(read_sheet("moments 0008\nunknowns y x")[:2], (["y", "x"], (2, 8, [], [[]] * 7, [])))
        # Steps of a world of one moment have no step to stand in; their unknowns are looked at all the same.
        self.assertEqual(read_sheet("unknowns x\nmoments 1\nsteps x' <= 1")[1], (1, 1, [], [], []))
        self.assertFalse(is_sheet_text("unknowns x\nmoments 1\nsteps y' <= 1"))

    def test_taken_back_and_told_again(self):
        text = FRAME + "sensor a: x slack 1\nreading r a at 0 = 1\nreading s a at 1 = 2\nback r\nreading r a at 2 = 3"
        self.assertEqual(read_sheet(text)[2], [("s", "a", 1, (2, 1)), ("r", "a", 2, (3, 1))])
        r, again = ("r", "a", 0, (1, 1)), ("r", "a", 2, (3, 1))
        self.assertEqual(
            arrivals(text=text), [("hear", r), ("hear", ("s", "a", 1, (2, 1))), ("back", "r"), ("hear", again)])
        self.assertEqual(read_sheet(text + "\nback s\nback r")[2], [])
        self.assertEqual(arrivals(FRAME), [])

    def test_names_and_words(self):
        # A name is free for an unknown, a sensor and a label at once, and may be a word of statements.
        text = ("unknowns start moments\nmoments 2\nsensor start: start slack 1\nsensor unknowns: moments slack 0\n"
                "sensor moments: start slack 0\nreading start start at 1 = 0\nstart start <= moments")
        self.assertEqual(read_sheet(text)[1][4][1], ("unknowns", (0, 1), (0, 1)))
        self.assertEqual(read_sheet(text)[2], [("start", "start", 1, (0, 1))])

    def test_sums_of_terms(self):
        big = 10 ** 100 - 1
        text = f"unknowns x\nmoments 1\nstart {big} x + {big} x <= -{big} - {big}\nsensor a: {big} x + x slack {big}"
        sheet = read_sheet(text)
        self.assertEqual(sheet[1][2], [((2 * big,), -2 * big)])
        self.assertEqual(sheet[1][4], [("a", (big + 1,), (big, 1))])
        with self.assertRaises(TooMany) as caught:
            tidy_text(text)
        self.assertEqual(attributes(caught.exception), (TooMany, "digits", 100))


class Errors(unittest.TestCase):
    def check(self, text, *expected):
        for function in (read_sheet, arrivals, tidy_text):
            with self.assertRaises(expected[0]) as caught:
                function(text)
            self.assertEqual(attributes(caught.exception), expected, text)
        self.assertIs(is_sheet_text(text), False)
        for first, second in [(text, text), (text, "moments"), (FRAME, text)]:
            with self.assertRaises(expected[0]) as caught:
                tell_one(first, second)
            self.assertEqual(attributes(caught.exception), expected, text)

    def test_sequence_of_kinds(self):
        self.check("", LackingStatement, "unknowns")
        self.check("moments 9", LackingStatement, "unknowns")
        self.check("unknowns x x", LackingStatement, "moments")
        self.check("back r", LackingStatement, "unknowns")
        self.check("start y <= 1\nunknowns x", LackingStatement, "moments")
        self.check("moments 9\nunknowns", BadText, 2, 8)
        self.check("back r\nmoments 1\nunknowns x\n\nstart", BadText, 5, 5)
        self.check("\n".join(["start x <= 1"] * 9) + "\nback r\n" + FRAME, UnknownName, "r", 10)

    def test_unknowns_and_moments(self):
        self.check("unknowns x x\nmoments 1", TakenName, "x", 1)
        self.check("moments 1\nunknowns x\nunknowns x x", TakenName, "unknowns", 3)
        self.check("moments 1\nunknowns x\n\nunknowns y", TakenName, "unknowns", 4)
        self.check("moments 1\nunknowns x\nmoments 9", TakenName, "moments", 3)
        self.check("moments 0\nunknowns x", WrongMoment, 0, 1)
        self.check("unknowns x\nmoments 9", WrongMoment, 9, 2)
        self.check("unknowns x\nmoments " + "9" * 100, WrongMoment, 10 ** 100 - 1, 2)
        self.check("unknowns x x\nmoments 9", TakenName, "x", 1)
        # They are held against the first ones, which may be wrong themselves.
        self.check("ask x at 3 <= 1\nunknowns x\nmoments 0", WrongMoment, 3, 1)
        self.check("start z <= 1\nunknowns x x\nmoments 1", UnknownName, "z", 1)
        # Only readings, questions and steps have a moment.
        self.check("sensor a: x slack 1\nstart x <= 1\nsteps x' <= 1\nask 3 <= 1\nunknowns x\nmoments 0", WrongMoment, 0, 6)
        self.check("start y <= 1\nunknowns x\nmoments 1\nunknowns y", UnknownName, "y", 1)

    def test_comparisons(self):
        self.check(FRAME + "start x <= y + z", UnknownName, "z", 3)
        self.check(FRAME + "start u <= z", UnknownName, "u", 3)
        self.check(FRAME + "start 0 z <= 1", UnknownName, "z", 3)
        self.check(FRAME + "steps x <= z'", UnknownName, "z", 3)
        self.check(FRAME + "step 2: z' <= 1", WrongMoment, 2, 3)
        self.check(FRAME + "step 1: z' <= 1", UnknownName, "z", 3)
        self.check("unknowns x\nmoments 1\nstep 0: x <= 1", WrongMoment, 0, 3)
        self.check(FRAME + "ask x at 2 <= y at 3", WrongMoment, 3, 3)
        self.check(FRAME + "ask z at 3 <= 1", UnknownName, "z", 3)
        self.check(FRAME + "ask x at 3 <= z at 0", WrongMoment, 3, 3)
        self.check(FRAME + "ask 3 + x at 0 - z at 9 <= x at 3", UnknownName, "z", 3)

    def test_sensors_and_readings(self):
        sensor = FRAME + "sensor a: x slack 1\n"
        self.check(sensor + "sensor a: z slack 1", TakenName, "a", 4)
        self.check(FRAME + "sensor a: x - z slack 1", UnknownName, "z", 3)
        self.check(FRAME + "sensor a: x - x slack 1", IdleSensor, "a", 3)
        self.check(FRAME + "sensor a: 0 x + 00 y slack 1", IdleSensor, "a", 3)
        self.check(FRAME + "sensor a: x - x + 0 z slack 1", UnknownName, "z", 3)
        self.check(sensor + "reading r b at 9 = 1", UnknownName, "b", 4)
        self.check(sensor + "reading r a at 3 = 1", WrongMoment, 3, 4)
        self.check(sensor + "reading r a at 0 = 1\nreading r b at 9 = 1", TakenName, "r", 5)
        self.check(sensor + "reading r a at 0 = 1\nreading r a at 0 = 1", TakenName, "r", 5)
        self.check(FRAME + "reading r b at 0 = 1\nsensor a: x - x slack 1", UnknownName, "b", 3)
        self.check(FRAME + "reading r a at 0 = 1\nsensor a: x - x slack 1", IdleSensor, "a", 4)

    def test_back(self):
        sensor = FRAME + "sensor a: x slack 1\n"
        self.check(sensor + "back r", UnknownName, "r", 4)
        self.check(sensor + "back r\nreading r a at 0 = 1", UnknownName, "r", 4)
        self.check(sensor + "reading r a at 0 = 1\nback r\nback r", UnknownName, "r", 6)
        self.check(sensor + "reading r a at 0 = 1\nback s", UnknownName, "s", 5)
        self.check(sensor + "reading r a at 0 = 1\nback r\nreading r a at 0 = 1\nreading r a at 1 = 1",
                   TakenName, "r", 7)

    def test_bounds(self):
        def repeated(count, line):
            return "\n".join(line.replace("?", str(k)) for k in range(count))

        frame = FRAME + "sensor a: x slack 1\n"
        for good, bad, what, limit in [
                (frame + repeated(8, "start x <= 1"), "start y <= 0", "rows", 8),
                (frame + repeated(4, "start x = 1"), "start 0 <= 0", "rows", 8),
                (frame + repeated(8, "step 1: x <= 1"), "steps y <= 0", "rows", 8),
                (frame + repeated(3, "steps x = 1") + "\n" + repeated(2, "step 0: x <= 1"), "step 0: 0 <= 1", "rows", 8),
                (frame + repeated(5, "sensor b?: x slack 0"), "sensor c: x slack 1", "sensors", 6),
                (frame + repeated(30, "reading r? a at 0 = 1"), "reading s a at 1 = 1", "readings", 30),
                (frame + repeated(30, "ask x at 0 <= ?"), "ask 0 <= 1", "questions", 30)]:
            self.assertIs(is_sheet_text(good), True, good)
            self.check(good + "\n" + bad, TooMany, what, limit)
            self.check(bad + "\n" + good, TooMany, what, limit)
        # Steps of other moments do not count, readings that are taken back neither.
        self.assertTrue(is_sheet_text(frame + repeated(8, "step 0: x <= 1") + "\n" + repeated(8, "step 1: x <= 1")))
        many = frame + repeated(30, "reading r? a at 0 = 1")
        self.assertEqual(len(read_sheet(many + "\nback r7\nreading s a at 1 = 1")[2]), 30)
        self.assertEqual(len(arrivals(many + "\nback r7\nreading s a at 1 = 1")), 32)
        # In a world of one moment no row of steps stands anywhere.
        self.assertTrue(is_sheet_text("unknowns x\nmoments 1\n" + repeated(9, "steps x <= 1")))

    def test_sequence_of_bounds(self):
        lines = [["start x <= 1"] * 9, ["step 1: x <= 1"] * 9, [f"sensor s{k}: x slack 0" for k in range(7)],
                 [f"reading r{k} s0 at 0 = 1" for k in range(31)], ["ask x at 0 <= 1"] * 31]
        told = [("rows", 8), ("rows", 8), ("sensors", 6), ("readings", 30), ("questions", 30)]
        for first in range(2, 5):
            text = "\n".join(["sensor s0: x slack 0"] * (first > 2) + sum(reversed(lines[first:]), []))
            self.check(FRAME + text, TooMany, *told[first])
            self.check(FRAME + text + "\n" + "\n".join(lines[1]), TooMany, "rows", 8)
            self.check(FRAME + text + "\nback z", UnknownName, "z", len((FRAME + text).split("\n")) + 1)

    def test_any_value(self):
        for value in STRANGE + ["unknowns x\nmoments 1\n?", ["unknowns x\nmoments 1"], ("unknowns x\nmoments 1",)]:
            self.assertIs(is_sheet_text(value=value), False)
        self.assertIs(is_sheet_text("unknowns x\nmoments 1"), True)


class OneSheet(unittest.TestCase):
    TEXT = ("unknowns x y\nmoments 3\nstart x <= 1\nstart y <= 2\nstart y <= 2\nstep 0: x' <= 1\nstep 1: y' <= x\n"
            "step 1: x' <= 3\nsensor a: x slack 1\nsensor b: y slack 0\nreading r a at 0 = 1\nreading s b at 1 = 2\n"
            "ask x at 0 <= 1\nask y at 1 <= x at 2")

    def test_sequences_do_not_matter(self):
        rows = self.TEXT.split("\n")
        self.assertIs(tell_one(first=self.TEXT, second="\n".join(reversed(rows))), True)
        self.assertIs(tell_one(self.TEXT, self.TEXT.replace("x <= 1\nstart", "2 x - x <= 3 - 2\nstart")), True)
        self.assertIs(tell_one(self.TEXT, self.TEXT + "\nreading t a at 0 = 1\nback t"), True)

    def test_each_difference_matters(self):
        for old, new in [
                ("unknowns x y", "unknowns y x"), ("unknowns x y", "unknowns x z"), ("moments 3", "moments 4"),
                ("start x <= 1", "start 2 x <= 2"), ("start y <= 2\nstart y <= 2", "start y <= 2"),
                ("start x <= 1", "start x <= 1\nstart x <= 1"), ("step 0: x' <= 1", "step 1: x' <= 1"),
                ("step 1: x' <= 3", "step 1: x' <= 4"), ("x slack 1", "x slack 2"), ("sensor b", "sensor c"),
                ("reading r", "reading q"), ("at 1 = 2", "at 1 = 3"), ("at 1 = 2", "at 2 = 2"),
                ("\nask x at 0 <= 1", ""), ("ask x at 0 <= 1", "ask x at 0 <= 1\nask x at 0 <= 1"),
                ("ask x at 0 <= 1", "ask x at 0 <= 2"), ("reading s b at 1 = 2\n", "")]:
            other = self.TEXT.replace(old, new).replace("s b at", "s c at" if new == "sensor c" else "s b at")
            other = other.replace("y", "z") if new == "unknowns x z" else other
            if new == "unknowns x z":
                other = other.replace("unknowns x y", new)
            self.assertNotEqual(other, self.TEXT)
            self.assertIs(tell_one(self.TEXT, other), False, new)
            self.assertIs(tell_one(other, self.TEXT), False, new)
            self.assertIs(tell_one(other, other), True, new)

    def test_errors_of_the_first_text_come_ahead(self):
        for first, second, error in [("moments 1", "?", LackingStatement), ("?", "moments 1", BadText),
                                     (FRAME, "?", BadText), (FRAME + "back r", "?", UnknownName),
                                     (FRAME + "start x <= 1\n" * 9, "?", TooMany)]:
            with self.assertRaises(error):
                tell_one(first, second)


if __name__ == "__main__":
    unittest.main()
