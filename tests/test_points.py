"""Points: compared, mixed, shifted, cut."""

import unittest

from allreadings.errors import InvalidMany, NoDirection, NothingGiven, UnevenPoint
from allreadings.fractions import compare, fraction, opposite, plus, total, whole
from allreadings.points import apart, compare_points, cut_point, is_point, is_shares, joined_points, middle, mixed
from allreadings.points import plain_direction, rising_points, share_between, shifted
from allreadings.rowsof import keeps
from tests.made import BIG, STRANGE, Made, changed, exact, told, with_bools, with_kinds


class Kinds(unittest.TestCase):
    def test_is_point(self):
        for point in [[], [(0, 1)], [(0, 1), (-1, 2)], [(BIG, 1)] * 20]:
            for many in range(21):
                self.assertIs(is_point(point, many), many == len(point))
            for value in [*with_bools(point), *with_kinds(point)]:
                self.assertIs(is_point(value, len(point)), False)
        for value in [[(2, 4)], [(1, -1)], [1], [None], [(1, 1), (1, 1)], "a"]:
            self.assertIs(is_point(value, 1), False)
        for value in STRANGE + list(changed([(0, 1), (3, 2)])):
            self.assertIsInstance(is_point(value=value, many=2), bool)
        for many in [-1, 21, True, None, "2", [2]]:
            with self.assertRaises(InvalidMany) as caught:
                is_point([], many)
            self.assertIs(caught.exception.value, many)

    def test_is_shares(self):
        for shares in [[(1, 1)], [(0, 1), (1, 1)], [(1, 2), (1, 3), (1, 6)], [(1, 200)] * 200]:
            self.assertIs(is_shares(shares, len(shares)), True)
            self.assertIs(is_shares(shares, len(shares) - 1), False)
            for value in [*with_bools(shares[:3]), *with_kinds(shares[:3])]:
                self.assertIs(is_shares(value, len(shares[:3])), False)
        for value in [[], [(2, 1), (-1, 1)], [(1, 2), (1, 3)], [(1, 1), (1, 1)], [(2, 4), (1, 2)]]:
            self.assertIs(is_shares(value, len(value)), False)
        for value in STRANGE + list(changed([(1, 2), (1, 2)])):
            self.assertIsInstance(is_shares(value=value, many=2), bool)
        for many in [-1, 201, True, None, "2", [2]]:
            with self.assertRaises(InvalidMany) as caught:
                is_shares([], many)
            self.assertIs(caught.exception.value, many)


class Points(unittest.TestCase):
    def test_compare(self):
        made = Made(1)
        for _ in range(200):
            point, other = made.point(2, 3), made.point(2, 3)
            one, two = [exact(a) for a in point], [exact(a) for a in other]
            self.assertEqual(compare_points(point, other), (one > two) - (one < two))
        self.assertEqual([compare_points([], []), compare_points([(1, 2)], [(1, 3)])], [0, 1])

    def test_rising(self):
        made = Made(2)
        for count in range(0, 30):
            points = [made.point(2, 3) for _ in range(count)]
            before = [list(point) for point in points]
            found = rising_points(points)
            self.assertEqual(found, rising_points(made.mixed_up(points) + points))
            self.assertEqual(points, before)
            self.assertTrue(all(compare_points(a, b) < 0 for a, b in zip(found, found[1:])))
            self.assertEqual({tuple(point) for point in found}, {tuple(point) for point in points})
            self.assertFalse(any(a is b for a in found for b in points))
        self.assertEqual(rising_points([[], []]), [[]])
        self.assertEqual(
            rising_points([[(1, 1)], [(1, 2)], [(-3, 1)], [(-1, BIG)], [(2, 5)], [(3, 5)], [(1, BIG)]]),
            [[(-3, 1)], [(-1, BIG)], [(1, BIG)], [(2, 5)], [(1, 2)], [(3, 5)], [(1, 1)]])

    def test_rising_close_together(self):
        """Fractions that differ only far behind the point, on both sides of nought."""
        for big in [7, 1000, BIG, BIG ** 3]:
            close = [(above, below) for below in (big, big + 1, big + 2) for above in (big - 1, big, big + 1, 1, -1, -big, 1 - big)]
            points = [[fraction(above, below), (1, 3)] for above, below in close]
            expected = sorted({(exact(a), exact(b)) for a, b in points})
            self.assertEqual([(exact(a), exact(b)) for a, b in rising_points(points)], expected)

    def test_mixes(self):
        made = Made(3)
        for _ in range(60):
            points = [made.point(2) for _ in range(made.number(1, 4))]
            parts = [made.number(0, 3) for _ in points]
            parts[0] += 1
            shares = [fraction(part, sum(parts)) for part in parts]
            self.assertTrue(is_shares(shares, len(shares)))
            mix = mixed(points=points, shares=shares)
            for k in range(2):
                self.assertEqual(exact(mix[k]), sum(exact(p[k]) * exact(s) for p, s in zip(points, shares)))
            row = made.row(2)
            if all(keeps(row, point) for point in points):
                self.assertTrue(keeps(row, mix))
            self.assertEqual(middle(points), mixed(points, [fraction(1, len(points))] * len(points)))
        self.assertEqual(mixed([[], []], [(1, 2), (1, 2)]), [])
        with self.assertRaises(NothingGiven):
            middle([])

    def test_share_between(self):
        one, other = [(0, 1), (1, 1), (2, 1)], [(0, 1), (3, 1), (-4, 1)]
        for share in [(0, 1), (1, 1), (1, 3), (5, 7)]:
            point = mixed([one, other], [plus((1, 1), opposite(share)), share])
            self.assertEqual(share_between(point, one, other), share)
        for point in [[(0, 1), (5, 1), (-10, 1)], [(0, 1), (0, 1), (5, 1)], [(1, 9), (2, 1), (-1, 1)],
                      [(0, 1), (2, 1), (-2, 1)], [(0, 1), (-1, 1), (-1, 1)]]:
            self.assertIsNone(share_between(point, one, other))
        made = Made(4)
        for _ in range(200):
            a, b, c = [made.point(2, 2) for _ in range(3)]
            if a != b:
                share = share_between(point=c, one=a, other=b)
                if share is None:
                    for part in range(13):
                        self.assertNotEqual(mixed([a, b], [fraction(12 - part, 12), fraction(part, 12)]), c)
                else:
                    self.assertEqual(mixed([a, b], [plus((1, 1), opposite(share)), share]), c)
                    self.assertTrue(is_shares([plus((1, 1), opposite(share)), share], 2))

    def test_ways(self):
        made = Made(5)
        for _ in range(100):
            point, other, numbers, amount = made.point(3), made.point(3), made.numbers(3, 4), made.fraction()
            self.assertEqual(apart(point, other), [told(exact(b) - exact(a)) for a, b in zip(point, other)])
            self.assertEqual(
                shifted(point=point, numbers=numbers, amount=amount),
                [told(exact(a) + number * exact(amount)) for a, number in zip(point, numbers)])

    def test_direction(self):
        self.assertEqual(plain_direction([(0, 1), (-4, 3), (2, 9)]), (0, -6, 1))
        self.assertEqual(plain_direction([(-BIG, 1)]), (-1,))
        for fractions in [[], [(0, 1)], [(0, 1), (0, 1)]]:
            with self.assertRaises(NoDirection) as caught:
                plain_direction(fractions)
            self.assertEqual(vars(caught.exception), {})
        made = Made(6)
        for _ in range(100):
            numbers = made.direction(3)
            found = plain_direction([whole(3 * number) for number in numbers])
            self.assertEqual(found, plain_direction([fraction(number, 7) for number in numbers]))
            k = [place for place, number in enumerate(numbers) if number][0]
            self.assertEqual([a * numbers[k] for a in found], [a * found[k] for a in numbers])
            self.assertGreater(found[k] * numbers[k], 0)

    def test_joined_and_cut(self):
        points = [[(0, 1), (1, 2)], [(3, 1), (-1, 4)], [(5, 1), (6, 1)]]
        point = joined_points(points)
        self.assertEqual(point, [(0, 1), (1, 2), (3, 1), (-1, 4), (5, 1), (6, 1)])
        self.assertEqual(cut_point(point, 2), points)
        self.assertEqual(cut_point(point, 6), [point])
        self.assertIsNot(cut_point(point, 6)[0], point)
        self.assertEqual([joined_points([]), joined_points([[], []]), cut_point([], 3)], [[], [], []])
        for many in (4, 5, 7, 20):
            with self.assertRaises(UnevenPoint) as caught:
                cut_point(point, many)
            self.assertEqual(vars(caught.exception), {"many": many})
        for many in (0, 21, -1, True, None, "2"):
            with self.assertRaises(InvalidMany) as caught:
                cut_point(point=point, many=many)
            self.assertIs(caught.exception.value, many)

    def test_total_of_equal_shares(self):
        self.assertEqual(total([fraction(1, 200)] * 200), (1, 1))
        self.assertEqual(compare((1, 200), (1, 201)), 1)


if __name__ == "__main__":
    unittest.main()
