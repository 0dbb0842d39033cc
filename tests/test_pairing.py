"""One unknown taken out."""

import unittest

from allreadings.clashes import follows, gap_at
from allreadings.errors import TooMany
from allreadings.fractions import compare
from allreadings.pairing import paired, taken_out
from allreadings.rowsof import broken_rows, tidied
from allreadings.solving import has_point
from tests.made import BIG, Made


def with_number(row, place, number):
    """The row with one more number at the place."""
    return (row[0][:place] + (number,) + row[0][place:], row[1])


def spread(uppers, lowers, others):
    """A system of which uppers times lowers and others are left, made tidy, when the last unknown is taken out."""
    rows = [((-21 * k, -1, 1), k * k) for k in range(uppers)]
    rows += [((k, 0, -1), k * k) for k in range(lowers)]
    return (3, rows + [((5000 + k, 3, 0), 10 ** 9 * (k + 1) ** 2) for k in range(others)])


class Paired(unittest.TestCase):
    def test_paired(self):
        self.assertEqual(paired(upper=((3, 2), 5), lower=((1, -4), 7), place=1), ((7,), 17))
        self.assertEqual(paired(((2, 3), 5), ((-3, 1), 7), 0), ((11,), 29))
        self.assertEqual(paired(((2,), 3), ((-3,), -4), 0), ((), 0))
        self.assertEqual(paired(((2,), 3), ((-3,), -5), 0), ((), -1))
        self.assertEqual(paired(((2,), 1), ((-4,), -2), 0), ((), 0))
        self.assertEqual(paired(((1, 1, 2), 4), ((1, -1, 0), 0), 1), ((1, 1), 2))
        self.assertEqual(paired(((BIG, 1), 0), ((-BIG, -1), 0), 0), ((0,), 0))


class TakenOut(unittest.TestCase):
    def check(self, system, place):
        many, rows = system
        left, papers = taken_out(system, place)
        self.assertIs(type(papers), list)
        self.assertEqual(left[0], many - 1)
        self.assertEqual(tidied(left), left)
        self.assertEqual(len(papers), len(left[1]))
        for row, weights in zip(left[1], papers):
            self.assertTrue(follows(system, with_number(row, place, 0), weights))
        pairs = [paired(upper, lower, place) for upper in rows if upper[0][place] > 0
                 for lower in rows if lower[0][place] < 0]
        stay = [(row[0][:place] + row[0][place + 1:], row[1]) for row in rows if row[0][place] == 0]
        self.assertEqual(left, tidied((many - 1, stay + pairs)))
        return left

    def test_made(self):
        made = Made(1)
        for _ in range(250):
            many = made.number(1, 4)
            system, place = made.system(many, made.number(0, 9)), made.number(0, many - 1)
            before = (system[0], list(system[1]))
            left = self.check(system, place)
            self.assertEqual(system, before)
            self.assertEqual(taken_out((many, made.mixed_up(system[1] + system[1][:2])), place)[0], left)
            self.assertEqual(has_point(left), has_point(system))
            for _ in range(4):
                point = made.point(many - 1)
                low, high = gap_at(system, point[:place] + [(0, 1)] + point[place:], place)
                zero_rows = [row for row in system[1] if row[0][place] == 0]
                open_gap = low is None or high is None or compare(low, high) <= 0
                keeps_rest = not broken_rows((many, zero_rows), point[:place] + [(0, 1)] + point[place:])
                self.assertEqual(broken_rows(left, point) == [], open_gap and keeps_rest)

    def test_edges(self):
        self.assertEqual(taken_out(system=(1, []), place=0), ((0, []), []))
        self.assertEqual(taken_out((1, [((0,), 3), ((2,), 1)]), 0), ((0, []), []))
        self.assertEqual(taken_out((1, [((0,), -3), ((2,), 1)]), 0), ((0, [((), -1)]), [[(1, 3), (0, 1)]]))
        self.assertEqual(self.check((2, [((0, 1), 1), ((0, -1), -1), ((4, 0), 2)]), 1), (1, [((2,), 1)]))

    def test_rows_left(self):
        self.assertEqual(len(self.check(spread(20, 20, 0), 2)[1]), 400)
        self.assertEqual(len(self.check(spread(19, 21, 1), 2)[1]), 400)
        for system in [spread(20, 20, 1), spread(200, 200, 0)]:
            with self.assertRaises(TooMany) as caught:
                taken_out(system, 2)
            self.assertEqual(vars(caught.exception), {"what": "rows", "limit": 400})
        # It is the rows made tidy that are counted.
        many, rows = spread(20, 20, 0)
        self.assertEqual(len(taken_out((many, rows + rows + [((-399, -1, 0), 10 ** 6)]), 2)[0][1]), 400)
        # A false row is then the only one.
        self.assertEqual(taken_out((many, spread(40, 40, 0)[1] + [((0, 0, 0), -1)]), 2)[0], (2, [((0, 0), -1)]))


if __name__ == "__main__":
    unittest.main()
