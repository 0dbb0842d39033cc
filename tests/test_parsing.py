"""Statements, beginnings, and the first fault of a text."""

import re
import unittest

from allreadings.beginnings import first_fault, is_beginning, is_statement
from allreadings.errors import BadText, TermError
from allreadings.parsing import statements
from allreadings.reader import is_sheet_text, read_sheet
from allreadings.words import lines
from tests.made import Made

NUMBER = "[0-9]{1,100}"
NAME = "[a-z][a-z0-9]{0,7}"
UNKNOWN = "(?!at |slack )[a-z][a-z0-9]{0,7}"
WORTH = f"{NUMBER} (?:/ (?!0+ ){NUMBER} )?"
TERMS = {
    "moment": f"(?:{NUMBER} |(?:{NUMBER} )?{UNKNOWN} )",
    "step": f"(?:{NUMBER} |(?:{NUMBER} )?{UNKNOWN} (?:' )?)",
    "question": f"(?:{NUMBER} |(?:{NUMBER} )?{UNKNOWN} at {NUMBER} )",
    "sensor": f"(?:{NUMBER} )?{UNKNOWN} ",
}
FORMS = {kind: f"(?:- )?{term}(?:[+-] {term})*" for kind, term in TERMS.items()}
KINDS = [
    f"unknowns {UNKNOWN} (?:{UNKNOWN} )?", f"moments {NUMBER} ",
    f"start {FORMS['moment']}(?:<=|>=|=) {FORMS['moment']}",
    f"step {NUMBER} : {FORMS['step']}(?:<=|>=|=) {FORMS['step']}",
    f"steps {FORMS['step']}(?:<=|>=|=) {FORMS['step']}",
    f"sensor {NAME} : {FORMS['sensor']}slack {WORTH}",
    f"reading {NAME} {NAME} at {NUMBER} = (?:- )?{WORTH}", f"back {NAME} ",
    f"ask {FORMS['question']}[<>]= {FORMS['question']}",
]
STATEMENT = re.compile("|".join(f"(?:{kind})" for kind in KINDS))

# From each beginning one of the ends of these leads to a whole statement.
SAMPLES = [
    "unknowns x y", "moments 4", "start x <= 3", "start 3 <= x", "step 0 : x <= x '", "steps x <= x '",
    "sensor a : x slack 1 / 2", "sensor a : 3 x slack 1", "reading r a at 2 = - 3", "back r", "ask x at 2 >= 1 x at 2"]
ENDS = sorted({tuple(sample.split()[at:]) for sample in SAMPLES for at in range(len(sample.split()) + 1)})

WORDS = (
    "unknowns moments start step steps sensor reading back ask slack at x y z9 abcdefgh abcdefghi 9x 0 00 1 02 3 : '"
    " + - / <= >= = < > X ( . steps'").split() + ["1" * 100, "1" * 101, "0" * 100, "0" * 101]


def is_whole(words):
    """Whether the words are a statement, by the expressions above."""
    return all(word and " " not in word for word in words) and bool(
        STATEMENT.fullmatch("".join(word + " " for word in words)))


def may_begin(words):
    return not words or any(is_whole(list(words) + list(end)) for end in ENDS)


def fault_by_beginnings(text):
    """The first fault, found word by word with the expressions alone."""
    for at, line in enumerate(lines(text)):
        words = [word for _, word in line[:-1]]
        if words and not is_whole(words):
            for count in range(1, len(words) + 1):
                if not may_begin(words[:count]):
                    return (at + 1, line[count - 1][0])
            return (at + 1, line[-1][0])
    return None


def made_words(made, length):
    """Words that begin some sample statement, with others behind them or in between."""
    words = made.one_of(SAMPLES).split()
    for _ in range(made.number(0, 3)):
        at = made.number(0, len(words))
        kind = made.number(0, 2)
        if kind == 0:
            words.insert(at, made.one_of(WORDS))
        elif kind == 1:
            words = words[:at] + made.one_of(SAMPLES).split()[1:]
        else:
            words = words[:at] + [made.one_of(WORDS)] + words[at + 1:]
    return words[:length]


class Beginnings(unittest.TestCase):
    def test_made(self):
        made = Made(11)
        seen = {"whole": 0, "begins": 0, "neither": 0}
        for _ in range(6000):
            words = made_words(made, made.number(0, 12))
            whole, begins = is_whole(words), may_begin(words)
            self.assertIs(is_statement(words), whole, words)
            self.assertIs(is_beginning(words), begins, words)
            seen["whole" if whole else "begins" if begins else "neither"] += 1
        self.assertTrue(all(count > 500 for count in seen.values()), seen)

    def test_each_beginning_with_each_word_behind_it(self):
        for sample in SAMPLES + ["start - 2 x + y - 1 = 4", "step 3 : - 2 x ' + y >= - 2", "sensor at : - x + 2 y slack 0",
                                 "reading at slack at 1 = 1 / 3", "ask - 2 x at 0 + y at 1 <= 3 - x at 2"]:
            words = sample.split()
            self.assertTrue(is_whole(words), sample)
            for count in range(len(words) + 1):
                self.assertTrue(is_beginning(words[:count]))
                for word in WORDS:
                    tried = words[:count] + [word]
                    self.assertIs(is_beginning(words=tried), may_begin(tried), tried)
                    self.assertIs(is_statement(words=tried), is_whole(tried), tried)

    def test_words_that_are_none(self):
        self.assertIs(is_beginning([]), True)
        self.assertIs(is_statement([]), False)
        for words in [[""], ["back", ""], ["back", "r", ""], ["", "back"], ["back r"], ["start", " "], ["start", "2x"],
                      ["START"], ["unknowns", "UNKNOWN"], ["back", "NAME"], ["moments", "NUMBER"],
                      ["sensor", "a", ":", "x", "slack", "1", "/", "NUMBER ABOVE 0"], ["line"], ["end"]]:
            self.assertIs(is_beginning(words), False, words)
            self.assertIs(is_statement(words), False, words)

    def test_arguments_stay(self):
        words = ["start", "x", "<=", "1"]
        is_beginning(words)
        is_statement(words)
        self.assertEqual(words, ["start", "x", "<=", "1"])


class Faults(unittest.TestCase):
    def check(self, text, fault):
        self.assertEqual(first_fault(text=text), fault, text)
        self.assertEqual(fault_by_beginnings(text), fault, text)
        if fault is None:
            statements(text)
            return
        for function in (statements, read_sheet):
            with self.assertRaises(BadText) as caught:
                function(text)
            self.assertEqual((caught.exception.row, caught.exception.spot), fault, text)
        self.assertIs(is_sheet_text(text), False)

    def test_each_kind_with_a_wrong_word_or_the_end(self):
        for text, spot in [
                ("unknowns", 8), ("unknowns 1", 9), ("unknowns at", 9), ("unknowns x slack", 11), ("unknowns x y z", 13),
                ("unknowns x, y", 10), ("unknowns abcdefghi", 9), ("moments", 7), ("moments x", 8), ("moments 1 2", 10),
                ("moments -1", 8), ("moments " + "0" * 101, 8), ("start", 5), ("start <= 1", 6), ("start + x <= 1", 6),
                ("start x", 7), ("start x y <= 1", 8), ("start x <=", 10), ("start x < 1", 8), ("start x <= 1 2", 13),
                ("start 2 3 <= 1", 8), ("start x' <= 1", 7), ("start x at 1 <= 1", 8), ("start x - - y <= 1", 10),
                ("start x <= 1 >= 2", 13), ("start 1/2 <= x", 7), ("start x <= -", 12), ("start x == 1", 9),
                ("step", 4), ("step x' <= 1", 5), ("step 0 x' <= 1", 7), ("step 0:", 7), ("step 0: x'' <= 1", 10),
                ("step 0: 2' <= 1", 9), ("step 0: x at 1 <= 1", 10), ("step 0: x' 1 <= 1", 11), ("steps", 5),
                ("steps 0: x <= 1", 7), ("steps x' 2 = 1", 9), ("sensor", 6), ("sensor 1", 7), ("sensor a", 8),
                ("sensor a x", 9), ("sensor a:", 9), ("sensor a: 3 slack 1", 12), ("sensor a: x", 11),
                ("sensor a: x + 3 slack 1", 16), ("sensor a: x slack", 17), ("sensor a: x slack -1", 18),
                ("sensor a: x slack 1/", 20), ("sensor a: x slack 1/0", 20), ("sensor a: x slack 1/000", 20),
                ("sensor a: x slack 1/2/3", 21), ("sensor a: x' slack 1", 11), ("sensor a: slack slack 1", 10),
                ("sensor abcdefghi: x slack 1", 7), ("reading", 7), ("reading r", 9), ("reading r a", 11),
                ("reading r a 1", 12), ("reading r a at", 14), ("reading r a at 1", 16), ("reading r a at 1 =", 18),
                ("reading r a at 1 <= 1", 17), ("reading r a at 1 = - - 1", 21), ("reading r a at 1 = +1", 19),
                ("reading r a at 1 = -", 20), ("reading r a at 1 = x", 19), ("reading r a at 1 = 1/-2", 21),
                ("reading 1 a at 1 = 1", 8), ("back", 4), ("back 1", 5), ("back r r", 7), ("ask", 3), ("ask x <= 1", 6),
                ("ask x at <= 1", 9), ("ask x at y <= 1", 9), ("ask x at 1 = 1", 11), ("ask x at 1", 10),
                ("ask x at 1 2 <= 1", 11), ("ask x' at 1 <= 1", 5), ("ask 1 <= x", 10), ("ask at at 1 <= 1", 4),
                ("tell x", 0), ("3", 0), ("'", 0), ("Start x <= 1", 0), ("x", 0), ("slack", 0), ("=", 0)]:
            self.check(text, (1, spot))
            self.check("back r # x\n\n  # nothing\n" + text + "\n?", (4, spot))

    def test_ends(self):
        self.check("back # r", (1, 8))
        self.check("  back", (1, 6))
        self.check("back ", (1, 5))
        self.check("start x #<= 1", (1, 13))
        self.check("\n\nback", (3, 4))
        self.check("", None)
        self.check("\n # x\n  \n#", None)
        self.check("back r#", None)

    def test_numbers(self):
        for digits in ["0" * 100, "9" * 100, "0" * 99 + "7"]:
            self.check("moments " + digits, None)
            self.check("start " + digits + " x <= " + digits, None)
            self.check(f"sensor a: x slack {digits}", None)
            self.check(f"reading r a at {digits} = {digits}", None)
            self.check("start 0" + digits + " <= 1", (1, 6))
            self.check("start 1 <= 0" + digits, (1, 11))
            self.check(f"sensor a: x slack 0{digits}", (1, 18))
            self.check(f"reading r a at 0{digits} = 1", (1, 15))
        self.check("sensor a: x slack 1/" + "0" * 100, (1, 20))
        self.check("sensor a: x slack 1/" + "0" * 99 + "1", None)

    def test_made(self):
        made = Made(12)
        counts = [0, 0]
        for _ in range(2500):
            texts = []
            for _ in range(made.number(1, 3)):
                words = made_words(made, 14) if made.number(0, 2) else made.one_of(SAMPLES).split()
                texts.append("".join(made.one_of(["", " ", "  "]) + word + made.one_of([" ", "  "]) for word in words)
                             + made.one_of(["", "# x", "#", " "]))
            text = "\n".join(texts)
            fault = fault_by_beginnings(text)
            counts[fault is None] += 1
            self.check(text, fault)
        self.assertTrue(min(counts) > 300, counts)


class Statements(unittest.TestCase):
    def test_each_kind(self):
        for text, told in [
                ("unknowns x", ("unknowns", 1, ["x"])), ("unknowns x9 y", ("unknowns", 1, ["x9", "y"])),
                ("unknowns x x", ("unknowns", 1, ["x", "x"])), ("moments 007", ("moments", 1, 7)),
                ("moments 0", ("moments", 1, 0)), ("start x = 0", ("start", 1, [(1, "x", 0)], "=", [(0, "", 0)])),
                ("start -2 x+y-3>=-z-0 x", ("start", 1, [(-2, "x", 0), (1, "y", 0), (-3, "", 0)], ">=",
                                             [(-1, "z", 0), (0, "x", 0)])),
                ("step 05: - 2 x' - x <= 3 + y'",
                 ("step", 1, 5, [(-2, "x", 1), (-1, "x", 0)], "<=", [(3, "", 0), (1, "y", 1)])),
                ("steps step' = steps", ("steps", 1, [(1, "step", 1)], "=", [(1, "steps", 0)])),
                ("sensor a: x - 2 y slack 1/2", ("sensor", 1, "a", [(1, "x", 0), (-2, "y", 0)], (1, 2))),
                ("sensor slack: -3 x slack 4/6", ("sensor", 1, "slack", [(-3, "x", 0)], (2, 3))),
                ("sensor at: 0 x slack 000", ("sensor", 1, "at", [(0, "x", 0)], (0, 1))),
                ("reading r a at 2 = 3/2", ("reading", 1, "r", "a", 2, (3, 2))),
                ("reading at slack at 02 = -04/6", ("reading", 1, "at", "slack", 2, (-2, 3))),
                ("reading r a at 0 = - 0/5", ("reading", 1, "r", "a", 0, (0, 1))),
                ("reading r a at 0 = 7", ("reading", 1, "r", "a", 0, (7, 1))), ("back at", ("back", 1, "at")),
                ("ask 2 x at 3 - y at 0 >= 1 - 4 x at 12",
                 ("ask", 1, [(2, "x", 3), (-1, "y", 0)], ">=", [(1, "", 0), (-4, "x", 12)])),
                ("ask 3 <= - 4", ("ask", 1, [(3, "", 0)], "<=", [(-4, "", 0)])),
                ("start start <= back", ("start", 1, [(1, "start", 0)], "<=", [(1, "back", 0)]))]:
            self.assertEqual(statements(text), [told], text)
            row = (told[0], 3) + told[2:]
            self.assertEqual(statements("\n# x\n  " + text + "# y\n\n"), [row])
            spaced = " ".join(word for _, word in lines(text)[0])
            self.assertEqual(statements(spaced), [told])

    def test_many(self):
        self.assertEqual(statements(text=""), [])
        self.assertEqual(statements("back a\n\nback b"), [("back", 1, "a"), ("back", 3, "b")])
        self.assertEqual(
            statements("start " + "9" * 100 + " x <= 0"), [("start", 1, [(10 ** 100 - 1, "x", 0)], "<=", [(0, "", 0)])])

    def test_first_wrong_line_alone_is_told(self):
        with self.assertRaises(TermError) as caught:
            statements("unknowns x\nback\nback")
        self.assertEqual((caught.exception.row, caught.exception.spot), (2, 4))


if __name__ == "__main__":
    unittest.main()
