"""Greatest worths both ways, bounds, drifts, and rows that follow."""

import math
import unittest

from allreadings.clashes import follows, is_clash, is_drift, is_tight, rank_of, weighed
from allreadings.errors import TooMany
from allreadings.fractions import compare, opposite, plus, whole
from allreadings.greatest import bounds_of, drift_of, follow_of, greatest_of, is_greatest, least_of, plain_greatest
from allreadings.points import shifted
from allreadings.rowsof import broken_rows, worth_at
from allreadings.solving import has_point
from tests.made import BIG, STRANGE, Made, changed, with_bools, with_kinds
from tests.test_solving import EDGES, wide

NOUGHT = (0, 1)
LINE = (1, [((1,), 0)])
BOX = (2, [((1, 0), 2), ((-1, 0), 1), ((0, 1), 3), ((0, -1), 0)])


def made_forms(seed, count):
    made = Made(seed)
    for _ in range(count):
        many, size = made.number(0, 4), made.one_of([1, 2, 5, BIG])
        yield made.system(many, made.number(0, 8), size), made.numbers(many, size)
    for system in EDGES:
        yield system, made.numbers(system[0], 2)
        yield system, (0,) * system[0]


class Greatest(unittest.TestCase):
    def test_edges(self):
        self.assertEqual(greatest_of((0, []), ()), ("worth", (0, 1), [], []))
        self.assertEqual(plain_greatest((0, [((), 4)]), ()), ("worth", (0, 1), [], [(0, 1)]))
        self.assertEqual(greatest_of((0, [((), -4)]), ()), ("none", [(1, 1)]))
        self.assertEqual(plain_greatest((0, [((), -4)]), ()), ("none", [(1, 4)]))
        self.assertEqual(greatest_of((2, []), (0, 0)), ("worth", (0, 1), [(0, 1), (0, 1)], []))
        for function in (greatest_of, plain_greatest):
            self.assertEqual(function((2, []), (0, -3))[2], (0, -1))
            self.assertEqual(function(LINE, (2,)), ("worth", (0, 1), [(0, 1)], [(2, 1)]))
            self.assertEqual(function(LINE, (-2,))[::2], ("endless", (-1,)))
            self.assertEqual(function(BOX, (1, 0))[:2], ("worth", (2, 1)))
            self.assertEqual(function(BOX, (-1, -1))[:2], ("worth", (1, 1)))
            self.assertEqual(function(system=(1, [((2,), 1), ((-3,), -2)]), numbers=(1,))[0], "none")

    def test_both_ways(self):
        words = {"worth": 0, "endless": 0, "none": 0}
        for system, numbers in made_forms(1, 500):
            before = (system[0], list(system[1]))
            told = greatest_of(system, numbers)
            self.assertEqual(system, before)
            self.assertEqual(greatest_of(system, numbers), told)
            words[told[0]] += 1
            self.assertIs(is_greatest(system, numbers, told), True)
            if told[0] == "none":
                self.assertTrue(is_tight(system, told[1]))
                self.assertFalse(has_point(system))
            if told[0] == "worth":
                places = weighed(told[3])
                self.assertEqual(rank_of([system[1][place][0] for place in places]), len(places))
                self.assertLessEqual(len(places), system[0])
            try:
                plain = plain_greatest(system, numbers)
            except TooMany as error:
                self.assertEqual((error.what, error.limit), ("rows", 400))
                continue
            self.assertEqual(plain[0], told[0])
            self.assertIs(is_greatest(system, numbers, plain), True)
            if told[0] == "worth":
                self.assertEqual(plain[1], told[1])
        self.assertGreater(min(words.values()), 60)

    def test_least(self):
        self.assertEqual(least_of(BOX, (1, 1))[:2], ("worth", (-1, 1)))
        self.assertEqual(least_of(system=LINE, numbers=(1,))[0], "endless")
        for system, numbers in made_forms(2, 150):
            told = least_of(system, numbers)
            contrary = tuple(-number for number in numbers)
            if told[0] == "worth":
                turned = ("worth", opposite(told[1]), told[2], told[3])
                self.assertTrue(is_greatest(system, contrary, turned))
                self.assertEqual(worth_at(numbers, told[2]), told[1])
            else:
                self.assertTrue(is_greatest(system, contrary, told))

    def test_bounds(self):
        self.assertEqual(bounds_of(system=BOX, numbers=(1, -1)), ((-4, 1), (2, 1)))
        self.assertEqual(bounds_of((1, []), (1,)), (None, None))
        self.assertEqual(bounds_of((1, []), (0,)), ((0, 1), (0, 1)))
        self.assertIsNone(bounds_of((1, [((0,), -1)]), (0,)))
        for system, numbers in made_forms(3, 200):
            low, high = least_of(system, numbers), greatest_of(system, numbers)
            told = bounds_of(system, numbers)
            if told is None:
                self.assertEqual([low[0], high[0]], ["none", "none"])
            else:
                self.assertIs(type(told), tuple)
                self.assertEqual(told, tuple(end[1] if end[0] == "worth" else None for end in (low, high)))
                self.assertIn(low[0] + high[0], ("worthworth", "worthendless", "endlessworth", "endlessendless"))

    def test_no_point_has_more(self):
        made = Made(4)
        for system, numbers in made_forms(5, 200):
            told = greatest_of(system, numbers)
            for _ in range(8):
                point = made.point(system[0])
                if not broken_rows(system, point):
                    self.assertNotEqual(told[0], "none")
                    if told[0] == "worth":
                        self.assertLessEqual(compare(worth_at(numbers, point), told[1]), 0)

    def test_plain_rows_left(self):
        self.assertEqual(plain_greatest((1, []), (1,))[0], "endless")
        system = wide(20, 20, 1)
        with self.assertRaises(TooMany) as caught:
            plain_greatest(system, (1, 0))
        self.assertEqual(vars(caught.exception), {"what": "rows", "limit": 400})
        self.assertEqual(greatest_of(system, (1, 0))[0], "worth")

    def test_long_systems(self):
        made = Made(6)
        rows = [(made.numbers(3, 9), made.number(20, 40)) for _ in range(400)]
        told = greatest_of((3, rows), (1, 2, 3))
        self.assertTrue(is_greatest((3, rows), (1, 2, 3), told))
        self.assertEqual(told[0], "worth")

    def test_how_far_fractions_grow(self):
        made = Made(7)
        for _ in range(100):
            many, digits = made.number(0, 4), made.one_of([1, 2, 30])
            size = 10 ** digits - 1
            system = (many, [(made.numbers(many, size), made.number(-size, size)) for _ in range(made.number(0, 8))])
            numbers = made.numbers(many, size)
            bound = math.factorial(many + 1) * 10 ** (digits * (many + 1))
            fractions = [end for end in bounds_of(system, numbers) or () if end]
            for told in (greatest_of(system, numbers), least_of(system, numbers)):
                fractions += told[1] if told[0] == "none" else told[1] if told[0] == "endless" else told[2] + told[3]
                fractions += [told[1]] if told[0] == "worth" else []
            for above, below in fractions:
                self.assertLessEqual(abs(above), bound)
                self.assertLessEqual(below, bound)


class Judge(unittest.TestCase):
    GOOD = [
        (BOX, (1, 1), ("worth", (5, 1), [(2, 1), (3, 1)], [(1, 1), (0, 1), (1, 1), (0, 1)])),
        (BOX, (1, 1), ("worth", (5, 1), [(2, 1), (3, 1)], [(1, 1), (0, 1), (1, 1), (0, 1)])),
        (LINE, (-1,), ("endless", [(-2, 1)], (-3,))),
        ((1, [((0,), -1), ((1,), 2)]), (1,), ("none", [(1, 3), (0, 1)])),
        ((1, [((1,), 0), ((1,), 0)]), (2,), ("worth", (0, 1), [(0, 1)], [(1, 1), (1, 1)])),
    ]

    def test_good(self):
        for system, numbers, value in self.GOOD:
            self.assertIs(is_greatest(system=system, numbers=numbers, value=value), True)

    def test_bools_and_kinds(self):
        for system, numbers, value in self.GOOD:
            for other in [*with_bools(value), *with_kinds(value)]:
                self.assertIs(is_greatest(system, numbers, other), False)

    def test_bad(self):
        ones = [(1, 1), (0, 1), (1, 1), (0, 1)]
        for value in [
            ("worth", (4, 1), [(2, 1), (2, 1)], ones), ("worth", (6, 1), [(3, 1), (3, 1)], ones),
            ("worth", (5, 1), [(2, 1), (2, 1)], ones), ("worth", (4, 1), [(2, 1), (3, 1)], ones),
            ("worth", (5, 1), [(2, 1), (3, 1)], [(2, 1), (1, 1), (1, 1), (0, 1)]),
            ("worth", (5, 1), [(2, 1), (3, 1)], ones[:3]), ("worth", (5, 1), [(2, 1), (3, 1)]),
            ("worth", (10, 2), [(2, 1), (3, 1)], ones), ("none", [(0, 1)] * 4), ("none", ones),
            ("endless", [(2, 1), (3, 1)], (1, 1)), ("endless", [(2, 1), (3, 1)], (0, 0)), ("Worth",),
            ("worth", (5, 1), [(2, 1), (3, 1)], ones, ones), ("none", [(0, 1)] * 4, [(2, 1), (3, 1)]),
        ]:
            self.assertIs(is_greatest(BOX, (1, 1), value), False, value)
        system, numbers, good = self.GOOD[3]
        for value in [good + (0,), good + ([NOUGHT], good[1]), ("non", good[1]), (good[1], good[1]), [good[0], good[1]]]:
            self.assertIs(is_greatest(system, numbers, value), False, value)
        good = self.GOOD[0][2]
        for value in [("wort",) + good[1:], (good[0],) + good[2:], good[1:], (None,) + good[1:], ("endless",) + good[1:]]:
            self.assertIs(is_greatest(BOX, (1, 1), value), False, value)
        for value in [("endless", [(1, 1)], (-1,)), ("endless", [(0, 1)], (0,)), ("endless", [(0, 1)], (1,)),
                      ("endless", [(0, 1)], [-1]), ("endless", [(0, 1)], (-1,), (-1,)), ("endless", (-1,), [(0, 1)])]:
            self.assertIs(is_greatest(LINE, (-1,), value), False, value)
        self.assertIs(is_greatest(LINE, (1,), ("endless", [(0, 1)], (-1,))), False)

    def test_weights_may_be_below_the_greatest_only_exactly(self):
        # The sum's most is just the worth, not less and not more.
        system = (1, [((1,), 0), ((0,), 1)])
        self.assertIs(is_greatest(system, (1,), ("worth", (0, 1), [(0, 1)], [(1, 1), (0, 1)])), True)
        self.assertIs(is_greatest(system, (1,), ("worth", (0, 1), [(0, 1)], [(1, 1), (1, 1)])), False)

    def test_any_value(self):
        for system, numbers, good in self.GOOD:
            for value in STRANGE + list(changed(good)):
                self.assertIsInstance(is_greatest(system, numbers, value), bool)


class Following(unittest.TestCase):
    def test_follow(self):
        words = {True: 0, False: 0}
        made = Made(8)
        for system, numbers in made_forms(9, 400):
            row = (numbers, made.number(-3, 9))
            weights = follow_of(system, row)
            words[weights is not None] += 1
            if weights is not None:
                self.assertTrue(follows(system, row, weights))
            else:
                told = greatest_of(system, numbers)
                if told[0] == "none":
                    level = (system[0], [(other, 0) for other, _ in system[1]])
                    self.assertEqual(greatest_of(level, numbers)[0], "endless")
                elif told[0] == "worth":
                    self.assertGreater(compare(told[1], whole(row[1])), 0)
        self.assertGreater(min(words.values()), 50)

    def test_follow_edges(self):
        self.assertEqual(follow_of((0, []), ((), 0)), [])
        self.assertIsNone(follow_of((0, []), ((), -1)))
        self.assertTrue(follows((0, [((), -2)]), ((), -9), follow_of((0, [((), -2)]), ((), -9))))
        self.assertIsNone(follow_of(system=(2, [((1, 1), 1)]), row=((1, 0), 1)))
        self.assertIsNone(follow_of((2, [((1, 1), 1), ((1, 1), -1), ((-1, -1), -1)]), ((1, 0), 1)))
        self.assertTrue(follows(LINE, ((3,), 0), follow_of(LINE, ((3,), 0))))
        self.assertIsNone(follow_of(LINE, ((3,), -1)))

    def test_drift(self):
        found = {True: 0, False: 0}
        made = Made(10)
        for system, _ in made_forms(11, 300):
            drift = drift_of(system)
            found[drift is None] += 1
            level = (system[0], [(numbers, 0) for numbers, _ in system[1]])
            units = [tuple(side * (k == place) for k in range(system[0])) for place in range(system[0])
                     for side in (1, -1)]
            endless = [unit for unit in units if greatest_of(level, unit)[0] == "endless"]
            self.assertEqual(drift is None, not endless)
            if drift is not None:
                self.assertTrue(is_drift(system, drift))
                self.assertTrue(any(drift))
                self.assertEqual(math.gcd(*drift), 1)
                point = [plus(a, (0, 1)) for a in made.point(system[0])]
                if not broken_rows(system, point):
                    self.assertEqual(broken_rows(system, shifted(point, drift, (1000, 7))), [])
        self.assertGreater(min(found.values()), 30)

    def test_drift_edges(self):
        self.assertIsNone(drift_of((0, [])))
        self.assertIsNone(drift_of((1, [((1,), 0), ((-1,), 0)])))
        self.assertIn(drift_of((1, [((0,), -1)])), [(1,), (-1,)])
        self.assertIn(drift_of((2, [((2, 4), 0), ((-2, -4), 0)])), [(2, -1), (-2, 1)])
        self.assertEqual(drift_of(system=(2, [((2, -3), 0), ((-2, 3), 0), ((-1, 0), 7)])), (3, 2))
        self.assertIn(drift_of((3, [((1, 0, 0), 0), ((-1, 0, 0), 0)]))[0], (0,))

    def test_clash_stays_a_clash(self):
        system = (1, [((1,), 0), ((-1,), -1)])
        self.assertTrue(is_clash(system, greatest_of(system, (0,))[1]))


if __name__ == "__main__":
    unittest.main()
