"""Parts, and the simplest fraction."""

import unittest

from allreadings.errors import CrossedBounds, NothingGiven, TooMany
from allreadings.fractions import compare, fraction, opposite
from allreadings.parts import compare_by_parts, of_parts, parts_of, simplest, simplest_plain
from tests.made import BIG, Made, exact, told

SOME = [fraction(above, below) for above in range(-13, 14) for below in range(1, 8)]


class Parts(unittest.TestCase):
    def test_parts_of(self):
        self.assertEqual(parts_of((0, 1)), [0])
        self.assertEqual(parts_of((-4, 1)), [-4])
        self.assertEqual(parts_of((-1, 2)), [-1, 2])
        self.assertEqual(parts_of((BIG, 10 ** 30)), [0, 1, BIG])
        for a in SOME + [(BIG, BIG - 1), fraction(-BIG, 7 ** 30)]:
            parts = parts_of(a)
            self.assertEqual(of_parts(parts), a)
            self.assertTrue(all(part >= 1 for part in parts[1:]))
            self.assertTrue(len(parts) == 1 or parts[-1] >= 2)

    def test_of_parts(self):
        self.assertEqual(of_parts([5]), (5, 1))
        self.assertEqual(of_parts([-3, 1]), (-2, 1))
        self.assertEqual(of_parts([2, 3, 1]), of_parts([2, 4]))
        self.assertEqual(of_parts(parts=[0, 1, 1, 1, 1]), (3, 5))
        for a in SOME:
            parts = parts_of(a)
            self.assertEqual(of_parts(parts[:-1] + [parts[-1] - 1, 1]), a)
        with self.assertRaises(NothingGiven):
            of_parts([])
        long = [1] * 3000
        self.assertEqual(parts_of(of_parts(long)), long[:-2] + [2])

    def test_compare(self):
        for a in SOME:
            for b in SOME[::7]:
                self.assertEqual(compare_by_parts(a, b), compare(a, b), (a, b))
        self.assertEqual(compare_by_parts((BIG, BIG - 1), (BIG - 1, BIG - 2)), -1)


def nearest_of_least_below(low, high):
    """The simplest fraction, by trying all belows."""
    below = 0
    while True:
        below += 1
        found = [above for above in range(-200, 201) if exact(low) * below <= above <= exact(high) * below]
        if found:
            return fraction(min(found, key=abs), below)


class Simplest(unittest.TestCase):
    def test_all_ways(self):
        for a in SOME[::2]:
            for b in SOME[::11]:
                low, high = (a, b) if compare(a, b) <= 0 else (b, a)
                found = simplest(low, high)
                self.assertEqual(found, nearest_of_least_below(low, high), (low, high))
                self.assertEqual(found, simplest_plain(low, high))
                self.assertEqual(simplest(opposite(high), opposite(low)), opposite(found))

    def test_edges(self):
        self.assertEqual(simplest((-5, 2), (7, 2)), (0, 1))
        self.assertEqual(simplest((0, 1), (7, 2)), (0, 1))
        self.assertEqual(simplest((-7, 2), (0, 1)), (0, 1))
        self.assertEqual(simplest((5, 2), (11, 2)), (3, 1))
        self.assertEqual(simplest((-11, 2), (-3, 1)), (-3, 1))
        self.assertEqual(simplest_plain((-11, 2), (-3, 1)), (-3, 1))
        for a in SOME[::4]:
            self.assertEqual([simplest(a, a), simplest_plain(a, a)], [a, a])

    def test_crossed(self):
        for function in (simplest, simplest_plain):
            with self.assertRaises(CrossedBounds) as caught:
                function(low=(1, 2), high=(1, 3))
            self.assertEqual(vars(caught.exception), {})

    def test_belows(self):
        self.assertEqual(simplest_plain((1, 2000), (1, 2000)), (1, 2000))
        self.assertEqual(simplest_plain((-1, 1999), (-1, 2000)), (-1, 1999))
        for low, high in [((1, 2001), (1, 2001)), ((1, BIG), (1, 2001)), ((-1, 2001), (-1, BIG))]:
            with self.assertRaises(TooMany) as caught:
                simplest_plain(low, high)
            self.assertEqual(vars(caught.exception), {"what": "belows", "limit": 2000})
        self.assertEqual(simplest((1, BIG), (1, 2001)), (1, 2001))
        with self.assertRaises(CrossedBounds):
            simplest_plain((1, 2001), (1, 2002))

    def test_thirty_digits(self):
        made = Made(2)
        for _ in range(40):
            a = fraction(made.number(1, 2 ** 39) * 10 ** 17 + 1, made.number(1, 2 ** 39) * 10 ** 17 + 3)
            b = told(exact(a) + exact((1, made.number(1, 10 ** 9))))
            found = simplest(a, b)
            self.assertTrue(exact(a) <= exact(found) <= exact(b))
            self.assertEqual(found, told(exact(found)))
            for below in range(max(1, found[1] - 50), found[1]):
                self.assertLess(b[0] * below // b[1] * a[1], a[0] * below)
            self.assertEqual(simplest(opposite(b), opposite(a)), opposite(found))

    def test_deep(self):
        one, other = of_parts([0] + [1] * 4000 + [2]), of_parts([0] + [1] * 4000 + [4])
        low, high = (one, other) if compare(one, other) < 0 else (other, one)
        found = simplest(low, high)
        self.assertTrue(compare(low, found) <= 0 <= compare(high, found))
        self.assertLessEqual(found[1], one[1])


if __name__ == "__main__":
    unittest.main()
