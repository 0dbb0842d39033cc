"""Integers, counts and fractions."""

import unittest

from allreadings.basics import is_count, is_integer
from allreadings.errors import DividedByNought, NothingGiven
from allreadings.fractions import ceiling_of, compare, floor_of, fraction, greatest, is_fraction, least, minus
from allreadings.fractions import opposite, over, over_one_below, plus, sign_of, times, total, whole, worth_text
from tests.made import BIG, STRANGE, Made, changed, exact, told, with_bools, with_kinds

SOME = [(0, 1), (1, 1), (-1, 1), (1, 2), (-1, 2), (2, 3), (-7, 3), (BIG, 1), (-BIG, BIG - 1), (1, BIG), (5, 2)]


class Integers(unittest.TestCase):
    def test_integers(self):
        for value in [0, 1, -1, BIG, -BIG]:
            self.assertIs(is_integer(value), True)
        for value in [True, False, None, "1", "", [], (), [1], (1,), (0, 1)]:
            self.assertIs(is_integer(value), False)

    def test_counts(self):
        self.assertEqual([is_count(value) for value in [0, 1, BIG]], [True, True, True])
        for value in [-1, -BIG, True, False, None, "0", [0], (0,)]:
            self.assertIs(is_count(value), False)

    def test_any_value(self):
        for value in STRANGE:
            self.assertIs(is_integer(value), type(value) is int)
            self.assertIs(is_count(value), type(value) is int and value >= 0)


class Fractions(unittest.TestCase):
    def test_is_fraction(self):
        for a in SOME:
            self.assertIs(is_fraction(a), True)
            for other in [*with_bools(a), *with_kinds(a)]:
                self.assertIs(is_fraction(other), False)
        for value in [(2, 4), (0, 2), (0, 0), (1, 0), (1, -1), (1,), (1, 1, 1), [1, 1], "11", None, 1, ("1", 1)]:
            self.assertIs(is_fraction(value), False)
        for value in STRANGE + [other for a in SOME for other in changed(a)]:
            self.assertIsInstance(is_fraction(value), bool)

    def test_made_of_integers(self):
        self.assertEqual(fraction(6, -4), (-3, 2))
        self.assertEqual(fraction(0, -9), (0, 1))
        self.assertEqual(fraction(-BIG, -BIG), (1, 1))
        self.assertEqual(whole(-7), (-7, 1))
        for above in (0, 1, -BIG):
            with self.assertRaises(DividedByNought) as caught:
                fraction(above=above, below=0)
            self.assertEqual(vars(caught.exception), {})

    def test_reckoning(self):
        for a in SOME:
            self.assertEqual(opposite(a), told(-exact(a)))
            self.assertEqual(sign_of(a), (exact(a) > 0) - (exact(a) < 0))
            self.assertEqual(floor_of(a), exact(a).__floor__())
            self.assertEqual(ceiling_of(a), exact(a).__ceil__())
            for b in SOME:
                self.assertEqual(plus(a, b), told(exact(a) + exact(b)))
                self.assertEqual(minus(a=a, b=b), told(exact(a) - exact(b)))
                self.assertEqual(times(a, b), told(exact(a) * exact(b)))
                self.assertEqual(compare(a, b), (exact(a) > exact(b)) - (exact(a) < exact(b)))
                if b[0]:
                    self.assertEqual(over(a, b), told(exact(a) / exact(b)))
            with self.assertRaises(DividedByNought):
                over(a, (0, 1))
        self.assertIs(type(compare((1, 2), (1, 3))), int)

    def test_lists(self):
        made = Made(1)
        for count in range(1, 12):
            fractions = [made.fraction() for _ in range(count)]
            self.assertEqual(least(fractions), told(min(exact(a) for a in fractions)))
            self.assertEqual(greatest(fractions), told(max(exact(a) for a in fractions)))
            self.assertEqual(total(fractions), told(sum(exact(a) for a in fractions)))
            numbers, below = over_one_below(fractions)
            self.assertEqual([fraction(number, below) for number in numbers], fractions)
            for less in range(1, below):
                self.assertFalse(all(a[0] * less % a[1] == 0 for a in fractions))
        self.assertEqual(total([]), (0, 1))
        self.assertEqual(over_one_below([]), ([], 1))
        for function in (least, greatest):
            with self.assertRaises(NothingGiven) as caught:
                function([])
            self.assertEqual(vars(caught.exception), {})

    def test_by_worth_not_as_tuples(self):
        self.assertEqual(least([(1, 2), (1, 3), (2, 5)]), (1, 3))
        self.assertEqual(greatest([(-3, 1), (-1, 2), (-2, 5)]), (-2, 5))

    def test_text(self):
        self.assertEqual([worth_text(a) for a in [(0, 1), (-3, 1), (-5, 2), (7, 9)]], ["0", "-3", "-5/2", "7/9"])
        self.assertEqual(worth_text((-BIG, BIG - 1)), "-" + str(BIG) + "/" + str(BIG - 1))
        self.assertEqual(len(worth_text((10 ** 3998, 7))), 3999 + 2)


if __name__ == "__main__":
    unittest.main()
