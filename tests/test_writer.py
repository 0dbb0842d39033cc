"""Sheets as written texts, and read again."""

import unittest

from allreadings.errors import TooMany
from allreadings.reader import read_sheet, tell_one
from allreadings.words import lines
from allreadings.worlds import is_readings, is_world
from allreadings.writer import form_text, statement_texts, tidy_text, write_sheet
from tests.made import BIG, MadeWorlds

HUGE = 10 ** 100


def kind_of(line):
    words = [word for _, word in lines(line)[0]]
    return words[0]


def with_noise(made, text):
    """The text with spaces, noughts in front, remarks and empty lines put in."""
    noisy = []
    for line in text.split("\n"):
        words = [word for _, word in lines(line)[0][:-1]]
        told = ""
        for word in words:
            if word.isdigit() and len(word) < 90:
                word = "0" * made.number(0, 2) + word
            apart = " " if told and told[-1].isalnum() and word[0].isalnum() else ""
            told += apart + " " * made.number(0, 2) + word
        noisy.append(told + made.one_of(["", "  ", "# x <= 1", " #", "#\t".strip()]))
        noisy.extend(made.one_of([[], [""], ["  "], ["# back r"]]))
    return "\n".join(noisy)


def with_places_changed(made, text):
    """The text with neighbouring statements of unlike kinds exchanged, but for those that must keep their sequence."""
    rows = text.split("\n")
    for _ in range(40):
        if len(rows) > 1:
            at = made.number(0, len(rows) - 2)
            kinds = {kind_of(rows[at]), kind_of(rows[at + 1])}
            if len(kinds) == 2 and kinds not in ({"reading", "back"}, {"step", "steps"}):
                rows[at], rows[at + 1] = rows[at + 1], rows[at]
    return "\n".join(rows)


class Forms(unittest.TestCase):
    def test_forms(self):
        for numbers, told in [
                ((1, 1), "x + y"), ((-1, -1), "-x - y"), ((2, -3), "2 x - 3 y"), ((0, -1), "-y"), ((0, 1), "y"),
                ((0, 7), "7 y"), ((-7, 0), "-7 x"), ((0, 0), "0"), ((1, 10), "x + 10 y"), ((BIG, -BIG), f"{BIG} x - {BIG} y")]:
            self.assertEqual(form_text(names=["x", "y"], numbers=numbers), told)
        self.assertEqual([form_text(["at9"], (k,)) for k in (-2, -1, 0, 1, 2)], ["-2 at9", "-at9", "0", "at9", "2 at9"])

    def test_digits(self):
        self.assertEqual(form_text(["x"], (HUGE - 1,)), "9" * 100 + " x")
        self.assertEqual(form_text(["x"], (1 - HUGE,)), "-" + "9" * 100 + " x")
        for numbers in [(HUGE,), (-HUGE,)]:
            with self.assertRaises(TooMany) as caught:
                form_text(["x"], numbers)
            self.assertEqual((caught.exception.what, caught.exception.limit), ("digits", 100))


class Sheets(unittest.TestCase):
    def test_all_kinds(self):
        sheet = (["x", "y"],
                 (2, 3, [((0, 0), -1), ((1, -2), 0)], [[((1, 0, -1, 0), 4), ((0, 0, 0, 2), -4)], []],
                  [("a", (2, 0), (0, 1)), ("at", (-1, 1), (7, 3))]),
                 [("r", "at", 2, (0, 1)), ("back", "a", 0, (-3, 1))],
                 [([], -1), ([(0, (1, 0)), (2, (-2, 1))], 0), ([(1, (0, -1))], 5)])
        texts = [
            "unknowns x y", "moments 3", "start 0 <= -1", "start x - 2 y <= 0", "step 0: x - x' <= 4",
            "step 0: 2 y' <= -4", "sensor a: 2 x slack 0", "sensor at: -x + y slack 7/3", "reading r at at 2 = 0",
            "reading back a at 0 = -3", "ask 0 <= -1", "ask x at 0 - 2 x at 2 + y at 2 <= 0", "ask -y at 1 <= 5"]
        self.assertEqual(statement_texts(sheet=sheet), texts)
        self.assertEqual(write_sheet(sheet=sheet), "\n".join(texts))
        self.assertEqual(read_sheet(write_sheet(sheet)), sheet)
        self.assertEqual(write_sheet((["x"], (1, 1, [], [], []), [], [])), "unknowns x\nmoments 1")

    def test_tidy_text(self):
        text = "ask 2 <= x at 1 # why\nmoments 02\n\nunknowns x\nsteps x = 03 x'\nsensor a: x+x slack 02/4"
        self.assertEqual(
            tidy_text(text=text),
            "unknowns x\nmoments 2\nstep 0: x - 3 x' <= 0\nstep 0: -x + 3 x' <= 0\nsensor a: 2 x slack 1/2\n"
            "ask -x at 1 <= -2")

    def test_digits_anywhere(self):
        good, bad = HUGE - 1, HUGE
        for number in (good, -good, bad, -bad):
            size = abs(number)
            for sheet in [
                    (["x"], (1, 2, [((number,), 0)], [[]], []), [], []),
                    (["x"], (1, 2, [((1,), number)], [[]], []), [], []),
                    (["x"], (1, 2, [], [[((0, number), 0)]], []), [], []),
                    (["x"], (1, 2, [], [[((0, 1), number)]], []), [], []),
                    (["x"], (1, 2, [], [[]], [("a", (number,), (0, 1))]), [], []),
                    (["x"], (1, 2, [], [[]], [("a", (1,), (size, 1))]), [], []),
                    (["x"], (1, 2, [], [[]], [("a", (1,), (1, size))]), [], []),
                    (["x"], (1, 2, [], [[]], [("a", (1,), (0, 1))]), [("r", "a", 0, (number, 1))], []),
                    (["x"], (1, 2, [], [[]], [("a", (1,), (0, 1))]), [("r", "a", 0, (1, size))], []),
                    (["x"], (1, 2, [], [[]], []), [], [([(0, (number,))], 0)]),
                    (["x"], (1, 2, [], [[]], []), [], [([], number)])]:
                if size == good:
                    self.assertEqual(read_sheet(write_sheet(sheet)), sheet)
                else:
                    for function in (write_sheet, statement_texts):
                        with self.assertRaises(TooMany) as caught:
                            function(sheet)
                        self.assertEqual((caught.exception.what, caught.exception.limit), ("digits", 100))

    def test_made(self):
        made = MadeWorlds(21)
        for _ in range(400):
            sheet = made.sheet()
            self.assertTrue(is_world(sheet[1]) and is_readings(sheet[1], sheet[2]))
            before = repr(sheet)
            text = write_sheet(sheet)
            self.assertEqual(text.split("\n"), statement_texts(sheet))
            self.assertEqual(repr(sheet), before)
            self.assertEqual(read_sheet(text), sheet)
            self.assertEqual(tidy_text(text), text)
            self.assertTrue(tell_one(text, write_sheet(read_sheet(text))))
            changed = with_places_changed(made, text)
            self.assertEqual(read_sheet(changed), sheet, changed)
            noisy = with_noise(made, changed)
            self.assertEqual(read_sheet(noisy), sheet, noisy)
            self.assertEqual(tidy_text(noisy), text)
            self.assertIs(tell_one(noisy, text), True)

    def test_long_text_can_be_passed_back(self):
        big = HUGE - 1
        row = ((big, -big, big, -big), -big)
        sheet = (["abcdefgh", "x2345678"], (2, 8, [((big, big), big)] * 8, [[row] * 8] * 7,
                                            [(f"s{k}", (big, -big), (big, big - 1)) for k in range(6)]),
                 [(f"r{k}", "s0", 7, (-big, big - 1)) for k in range(30)],
                 [([(t, (big, big)) for t in range(8)], big)] * 30)
        text = write_sheet(sheet)
        self.assertGreater(len(text), 8000)
        self.assertEqual(read_sheet(text), sheet)
        self.assertEqual(tidy_text(text), text)


if __name__ == "__main__":
    unittest.main()
