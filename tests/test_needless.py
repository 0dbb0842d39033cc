"""Needless rows, lean papers, equal systems, and their judges."""

import unittest

from allreadings.greatest import follow_of
from allreadings.needless import equal, is_equal_paper, is_lean_paper, lean_paper, needless
from allreadings.rowsof import plain_row
from allreadings.solving import has_point
from tests.made import STRANGE, Made, changed, with_bools, with_kinds
from tests.test_solving import EDGES


def made_systems(seed, count):
    made = Made(seed)
    for _ in range(count):
        yield made.system(made.number(0, 3), made.number(0, 8), made.one_of([1, 2, 4]))
    for system in EDGES:
        yield system


def needless_by_words(system):
    """The rows left out from the last to the first one, each asked by follow_of."""
    many, rows = system
    left = list(range(len(rows)))
    for place in reversed(range(len(rows))):
        others = [rows[k] for k in left if k != place]
        if follow_of((many, others), rows[place]) is not None:
            left.remove(place)
    return [place for place in range(len(rows)) if place not in left]


class Needless(unittest.TestCase):
    def test_edges(self):
        self.assertEqual(needless((0, [])), [])
        self.assertEqual(needless((2, [((0, 0), 0), ((0, 0), 3)])), [0, 1])
        self.assertEqual(needless((0, [((), -1), ((), -2)])), [1])
        self.assertEqual(needless(system=(1, [((1,), 4), ((1,), 4), ((2,), 8)])), [1, 2])
        self.assertEqual(needless((1, [((1,), 5), ((1,), 4)])), [0])
        self.assertEqual(needless((1, [((1,), 0), ((-1,), 0)])), [])
        # Without points a row follows if its numbers are a sum: from the false row noughts alone.
        self.assertEqual(needless((1, [((0,), -1), ((1,), 0), ((0,), 7), ((2,), -3)])), [2, 3])
        self.assertEqual(needless((1, [((1,), 0), ((-1,), -1), ((3,), -9), ((-1,), -5)])), [2, 3])

    def test_made(self):
        for system in made_systems(1, 350):
            before = (system[0], list(system[1]))
            out = needless(system)
            self.assertEqual(system, before)
            self.assertEqual(out, needless_by_words(system), system)
            paper = lean_paper(system)
            self.assertEqual([place for place, told in enumerate(paper) if told[0] == "out"], out)
            self.assertIs(is_lean_paper(system, paper), True)
            kept = (system[0], [row for place, row in enumerate(system[1]) if place not in out])
            self.assertIn(equal(system, kept)[0], ("equal", "none"))
            self.assertEqual(needless(kept), [])

    def test_both_kinds_of_proof_occur(self):
        words = {word for system in made_systems(2, 100) for word, _ in lean_paper(system)}
        self.assertEqual(words, {"out", "point", "drift"})

    def test_long(self):
        made = Made(3)
        for many, count in [(2, 400), (4, 300), (20, 60)]:
            system = (many, [(made.numbers(many, 9), made.number(0, 30)) for _ in range(count)])
            paper = lean_paper(system)
            self.assertIs(is_lean_paper(system, paper), True)
            self.assertEqual([place for place, told in enumerate(paper) if told[0] == "out"], needless(system))


class LeanPapers(unittest.TestCase):
    ROW = (1, [((-1,), 0), ((1,), 4), ((2,), 5)])
    PAPER = [("point", [(-1, 1)]), ("out", [(0, 1), (0, 1), (1, 2)]), ("point", [(3, 1)])]
    NOPOINT = (2, [((1, 0), 0), ((-1, 0), -1), ((0, 1), 3)])
    DRIFT = [("point", [(1, 1), (0, 1)]), ("point", [(0, 1), (3, 1)]), ("drift", (0, 1))]

    def test_good(self):
        self.assertIs(is_lean_paper(system=self.ROW, value=self.PAPER), True)
        self.assertIs(is_lean_paper(self.NOPOINT, self.DRIFT), True)
        self.assertIs(is_lean_paper((1, []), []), True)
        # A drift shows it where the other rows have points, too.
        self.assertIs(is_lean_paper(self.ROW, [("drift", (-1,))] + self.PAPER[1:]), True)
        # "out" need not be told for all needless rows, nor for just those that are left out from behind.
        pair = (1, [((1,), 1), ((1,), 1)])
        self.assertIs(is_lean_paper(pair, [("out", [(0, 1), (1, 1)]), ("point", [(2, 1)])]), True)
        self.assertIs(is_lean_paper(pair, [("point", [(2, 1)]), ("out", [(1, 1), (0, 1)])]), True)

    def test_bad(self):
        pair = (1, [((1,), 1), ((1,), 1)])
        self.assertIs(is_lean_paper(pair, [("out", [(0, 1), (1, 1)]), ("out", [(1, 1), (0, 1)])]), False)
        self.assertIs(is_lean_paper(pair, [("out", [(1, 1), (0, 1)]), ("point", [(2, 1)])]), False)
        self.assertIs(is_lean_paper(pair, [("point", [(2, 1)]), ("point", [(2, 1)])]), False)
        for value in [
            self.PAPER[:2], self.PAPER + self.PAPER[:1], self.PAPER[::-1], tuple(self.PAPER),
            [("point", [(0, 1)])] + self.PAPER[1:], [("point", [(-1, 1), (0, 1)])] + self.PAPER[1:],
            [("drift", (1,))] + self.PAPER[1:], [("drift", (-1,), 0)] + self.PAPER[1:],
            self.PAPER[:1] + [("out", [(0, 1), (1, 1), (0, 1)])] + self.PAPER[2:],
            self.PAPER[:1] + [("out", [(0, 1), (1, 2), (1, 4)])] + self.PAPER[2:],
            self.PAPER[:1] + [("out", [(0, 1), (0, 1), (1, 3)])] + self.PAPER[2:],
            self.PAPER[:2] + [("point", [(5, 1), (5, 1)])], self.PAPER[:2] + [("point", [(-1, 1)])],
            self.PAPER[:2] + [("pint", [(3, 1)])],
        ]:
            self.assertIs(is_lean_paper(self.ROW, value), False, value)
        # The drift must be one of the other rows left, and raise this row.
        for drift in [(1, 1), (-1, 1), (0, -1), (0, 0), [0, 1], (0,), (0, 1, 0)]:
            self.assertIs(is_lean_paper(self.NOPOINT, self.DRIFT[:2] + [("drift", drift)]), False)
        # A point need not keep rows with "out", but all others.
        three = (1, [((1,), 1), ((1,), 2), ((1,), 3)])
        out = [("out", [(0, 1), (0, 1), (0, 1)])]
        self.assertIs(is_lean_paper(three, [("point", [(4, 1)])] + [("out", [(1, 1), (0, 1), (0, 1)])] * 2), True)
        self.assertIs(is_lean_paper(three, [("point", [(4, 1)]), ("out", [(1, 1), (0, 1), (0, 1)])] + out), False)

    def test_any_value(self):
        for system, good in [(self.ROW, self.PAPER), (self.NOPOINT, self.DRIFT)]:
            for value in [*with_bools(good), *with_kinds(good)]:
                self.assertIs(is_lean_paper(system, value), False)
            for value in STRANGE + list(changed(good)):
                self.assertIsInstance(is_lean_paper(system, value), bool)


class Equal(unittest.TestCase):
    def test_made(self):
        made = Made(4)
        words = {}
        for system in made_systems(5, 350):
            many, rows = system
            kind = made.number(0, 3)
            if kind == 0:
                other = (many, made.mixed_up([plain_row(row) for row in rows] + rows[:1]))
            elif kind == 1:
                other = (many, [row for place, row in enumerate(rows) if place not in needless(system)])
            else:
                other = made.system(many, made.number(0, 4))
            told, turned = equal(system, other), equal(other, system)
            words[told[:2] if told[0] == "apart" else told[0]] = True
            self.assertIs(is_equal_paper(system, other, told), True)
            self.assertIs(is_equal_paper(other, system, turned), True)
            self.assertEqual(told[0], turned[0])
            self.assertEqual(told[0] == "none", not has_point(system) and not has_point(other))
            if kind in (0, 1):
                self.assertNotEqual(told[0], "apart")
            if told[0] == "apart" and told[1] == 1:
                # Then the first system has no point of its own: its rows' points are all in the other one.
                self.assertTrue(all(follow_of(system, row) for row in other[1]) or not has_point(system))
        self.assertEqual({key for key in words if isinstance(key, str)}, {"none", "equal"})
        self.assertEqual({key[1] for key in words if isinstance(key, tuple)}, {0, 1})

    def test_edges(self):
        self.assertEqual(equal((0, []), (0, [((), 0)])), ("equal", [[]], []))
        self.assertEqual(equal((0, []), (0, [((), -1)])), ("apart", 0, []))
        self.assertEqual(equal(system=(0, [((), -1)]), other=(0, [])), ("apart", 1, []))
        self.assertEqual(equal((0, [((), -1)]), (0, [((), -2)])), ("none", [(1, 1)], [(1, 1)]))
        # Where each has points of its own, the first one's is told.
        self.assertEqual(equal((1, [((1,), 0)]), (1, [((-1,), 0)]))[:2], ("apart", 0))

    def test_judge(self):
        one, other = (1, [((1,), 1)]), (1, [((2,), 2), ((1,), 5)])
        good = ("equal", [[(2, 1)], [(1, 1)]], [[(1, 2), (0, 1)]])
        self.assertIs(is_equal_paper(one, other, good), True)
        for value in [("equal", good[2], good[1]), ("equal", good[1][:1], good[2]), ("equal", good[1], []),
                      ("equal", [[(2, 1)], [(2, 1)]], good[2]), ("none", [(1, 1)], [(1, 1), (0, 1)]),
                      ("apart", 0, [(0, 1)]), ("apart", 1, [(2, 1)]), good[1:], good + (1,)]:
            self.assertIs(is_equal_paper(one, other, value), False, value)
        low, high = (1, [((1,), 0)]), (1, [((-1,), 0)])
        self.assertIs(is_equal_paper(low, high, ("apart", 0, [(-1, 2)])), True)
        self.assertIs(is_equal_paper(low, high, ("apart", 1, [(1, 2)])), True)
        for value in [("apart", 1, [(-1, 2)]), ("apart", 0, [(0, 1)]), ("apart", 2, [(1, 2)]), ("apart", True, [(1, 2)]),
                      ("apart", False, [(-1, 2)]), ("apart", None, [(1, 2)]), ("apart", 0, [(-1, 2), (0, 1)]),
                      ("apart", -1, [(1, 2)]), ("part", 1, [(1, 2)]), (None, 1, [(1, 2)]), ("apart", 0, (-1, 2)), ("apart", 0, ((-1, 2),))]:
            self.assertIs(is_equal_paper(low, high, value), False, value)
        # "equal" may be shown of two systems without points, too.
        nopoint = (1, [((0,), -1)])
        self.assertIs(is_equal_paper(nopoint, nopoint, ("equal", [[(1, 1)]], [[(1, 1)]])), True)
        self.assertIs(is_equal_paper(nopoint, nopoint, ("none", [(1, 2)], [(1, 1)])), True)
        self.assertIs(is_equal_paper(nopoint, nopoint, ("none", [(0, 1)], [(1, 1)])), False)
        self.assertIs(is_equal_paper(nopoint, nopoint, ("none", [(1, 1)], [(0, 1)])), False)

    def test_any_value(self):
        one, other = (1, [((1,), 1)]), (1, [((2,), 2)])
        for first, second, good in [(one, other, equal(one, other)), (one, (1, []), equal(one, (1, [])))]:
            self.assertIs(is_equal_paper(first, second, good), True)
            for value in [*with_bools(good), *with_kinds(good)]:
                self.assertIs(is_equal_paper(first, second, value), False)
            for value in STRANGE + list(changed(good)):
                self.assertIsInstance(is_equal_paper(system=first, other=second, value=value), bool)


if __name__ == "__main__":
    unittest.main()
