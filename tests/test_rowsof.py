"""Rows and systems: whether a value is one, made plain, summed up, moved, joined, made tidy."""

import unittest

from allreadings.errors import InvalidMany, TooMany, UnlikeMany
from allreadings.fractions import fraction, minus, opposite, plus, times, whole
from allreadings.rowsof import band_rows, broken_rows, is_false, is_idle, is_plain, is_row, is_system, joined_system
from allreadings.rowsof import keeps, moved_row, placed_row, plain_row, room_at, row_of, sum_by_one_below, sum_of
from allreadings.rowsof import tidied, worth_at
from tests.made import BIG, STRANGE, Made, changed, exact, told, with_bools, with_kinds

BAD_MANY = [-1, 21, True, False, None, "1", [1], BIG]


class Kinds(unittest.TestCase):
    def test_is_row(self):
        rows = {0: ((), 5), 1: ((0,), -BIG), 2: ((1, 0), 1), 20: ((1,) * 20, 0)}
        for many, row in rows.items():
            for other in rows:
                self.assertIs(is_row(row, other), other == many)
            for value in [*with_bools(row), *with_kinds(row)]:
                self.assertIs(is_row(value, many), False)
            for value in changed(row):
                self.assertIsInstance(is_row(value, many), bool)
        for value in STRANGE:
            self.assertIs(is_row(value=value, many=1), value == ((1,), 1) and type(value[0][0]) is int)

    def test_is_row_bounds(self):
        for many in BAD_MANY:
            for value in [((1,), 1), None]:
                with self.assertRaises(InvalidMany) as caught:
                    is_row(value, many)
                self.assertIs(caught.exception.value, many)
                self.assertEqual(list(vars(caught.exception)), ["value"])

    def test_is_system(self):
        row = ((1, 0), 1)
        for system in [(0, []), (2, []), (2, [row, row]), (0, [((), -1)]), (2, [row] * 200), (20, [((0,) * 20, 1)])]:
            self.assertIs(is_system(system), True)
            for value in [*with_bools(system), *with_kinds((system[0], system[1][:2]))]:
                self.assertIs(is_system(value), False)
        for value in [(2, [row] * 201), (21, []), (-1, []), (3, [row]), (2, [row, ((1,), 1)]), (2,), (2, [row], 1)]:
            self.assertIs(is_system(value), False)
        for value in STRANGE + list(changed((2, [row, ((0, 0), 0)]))):
            self.assertIsInstance(is_system(value), bool)


class Rows(unittest.TestCase):
    def test_plain(self):
        self.assertEqual(plain_row(((4, -6), 10)), ((2, -3), 5))
        self.assertEqual(plain_row(((4, -6), 9)), ((4, -6), 9))
        self.assertEqual(plain_row(((0, -6), 0)), ((0, -1), 0))
        for many in (0, 2):
            noughts = (0,) * many
            self.assertEqual([plain_row((noughts, most))[1] for most in (-BIG, -1, 0, 1, 7)], [-1, -1, 0, 0, 0])
            self.assertEqual([is_plain((noughts, most)) for most in (-2, -1, 0, 1)], [False, True, True, False])
            self.assertEqual([is_false((noughts, most)) for most in (-2, -1, 0, 1)], [True, True, False, False])
            self.assertEqual([is_idle((noughts, most)) for most in (-2, -1, 0, 1)], [False, False, True, True])
        self.assertEqual([is_plain(((2, 4), 3)), is_plain(((2, 4), 6)), is_plain(((0, 2), 0))], [True, False, False])
        self.assertEqual([is_false(((0, 1), -3)), is_idle(((0, 1), 3))], [False, False])
        made = Made(3)
        for _ in range(300):
            row, point = made.row(2, 12), made.point(2)
            plain = plain_row(row)
            self.assertTrue(is_plain(plain))
            self.assertEqual(plain_row(plain), plain)
            self.assertEqual(is_plain(row), plain == row)
            self.assertEqual(keeps(row, point), keeps(plain, point))
            if any(row[0]):
                k = 0 if row[0][0] else 1
                self.assertEqual(
                    [number * plain[0][k] for number in (*row[0], row[1])],
                    [number * row[0][k] for number in (*plain[0], plain[1])])
                self.assertGreater(row[0][k] * plain[0][k], 0)

    def test_row_of(self):
        self.assertEqual(row_of([(0, 1)], (0, 1)), ((0,), 0))
        self.assertEqual(row_of([(0, 1)], (1, 3)), ((0,), 0))
        self.assertEqual(row_of([], (-1, 3)), ((), -1))
        self.assertEqual(row_of(fractions=[(1, 2), (0, 1)], most=(0, 1)), ((1, 0), 0))
        made = Made(4)
        for _ in range(300):
            fractions, most, point = made.point(2), made.fraction(), made.point(2)
            row = row_of(fractions, most)
            self.assertTrue(is_plain(row))
            worth = sum(exact(a) * exact(b) for a, b in zip(fractions, point))
            self.assertEqual(keeps(row, point), worth <= exact(most))
            self.assertEqual(row_of([times(a, (5, 3)) for a in fractions], times(most, (5, 3))), row)

    def test_band(self):
        for numbers in [(2, -4), [2, -4]]:
            self.assertEqual(band_rows(numbers, (-1, 1), (6, 1)), [((1, -2), 3), ((-2, 4), 1)])
        self.assertEqual(band_rows((0,), (1, 1), (2, 1)), [((0,), 0), ((0,), -1)])
        self.assertEqual(band_rows((1,), (3, 1), (2, 1)), [((1,), 2), ((-1,), -3)])

    def test_worths(self):
        made = Made(5)
        for _ in range(200):
            many = made.number(0, 4)
            numbers, point, most = made.numbers(many, 5), made.point(many), made.number(-9, 9)
            worth = sum(a * exact(b) for a, b in zip(numbers, point))
            self.assertEqual(worth_at(numbers, point), told(worth + exact((0, 1))))
            self.assertEqual(worth_at(list(numbers), point), worth_at(numbers, point))
            self.assertEqual(room_at((numbers, most), point), told(most - worth + exact((0, 1))))
            self.assertIs(keeps((numbers, most), point), worth <= most)
        self.assertIs(keeps(((2,), 3), [(3, 2)]), True)
        self.assertIs(keeps(((2,), 3), [(3 * BIG + 1, 2 * BIG)]), False)

    def test_broken(self):
        system = (1, [((2,), 3), ((1,), 1), ((0,), -1), ((-1,), 0), ((0,), 0)])
        self.assertEqual(broken_rows(system, [(3, 2)]), [1, 2])
        self.assertEqual(broken_rows(system, [(-1, 9)]), [2, 3])
        self.assertEqual(broken_rows((0, [((), 0), ((), -1)]), []), [1])
        self.assertEqual(broken_rows((3, []), [(0, 1)] * 3), [])

    def test_sums(self):
        made = Made(6)
        for _ in range(150):
            many, rows = made.system(made.number(0, 3), made.number(0, 6), 5)
            weights = [fraction(made.number(0, 5), made.number(1, 6)) for _ in rows]
            numbers = [told(sum((row[0][k] * exact(w) for row, w in zip(rows, weights)), exact((0, 1))))
                       for k in range(many)]
            most = told(sum((row[1] * exact(w) for row, w in zip(rows, weights)), exact((0, 1))))
            self.assertEqual(sum_of((many, rows), weights), (numbers, most))
            self.assertEqual(sum_by_one_below((many, rows), weights), (numbers, most))
        self.assertEqual(sum_of((2, []), []), ([(0, 1), (0, 1)], (0, 1)))
        self.assertEqual(sum_by_one_below((2, []), []), ([(0, 1), (0, 1)], (0, 1)))

    def test_a_row_that_follows_is_kept(self):
        made = Made(7)
        for _ in range(200):
            many, rows = made.system(2, 4)
            point = made.point(2)
            if not broken_rows((many, rows), point):
                weights = [fraction(made.number(0, 5), made.number(1, 6)) for _ in rows]
                numbers, most = sum_of((many, rows), weights)
                self.assertTrue(keeps(row_of(numbers, most), point))


class Changed(unittest.TestCase):
    def test_placed(self):
        self.assertEqual(placed_row(((2, 4), 6), 1, 2), ((0, 2, 4, 0, 0), 6))
        self.assertEqual(placed_row(row=((), 6), ahead=0, behind=20), ((0,) * 20, 6))
        self.assertEqual(placed_row(((1,), 1), 19, 0), ((0,) * 19 + (1,), 1))
        for bad in BAD_MANY:
            for ahead, behind in [(bad, 0), (bad, -5), (0, bad), (20, bad)]:
                with self.assertRaises(InvalidMany) as caught:
                    placed_row(((1,), 1), ahead, behind)
                self.assertIs(caught.exception.value, bad)
        for row, ahead, behind in [(((1,), 1), 20, 0), (((1,), 1), 10, 10), (((), 0), 20, 20), (((1,) * 20, 1), 0, 1)]:
            with self.assertRaises(TooMany) as caught:
                placed_row(row, ahead, behind)
            self.assertEqual(vars(caught.exception), {"what": "unknowns", "limit": 20})

    def test_moved(self):
        self.assertEqual(moved_row(((0, 0), -5), [(1, 2), (1, 2)]), ((0, 0), -1))
        self.assertEqual(moved_row(((0, 0), 5), [(1, 2), (1, 2)]), ((0, 0), 0))
        made = Made(8)
        for _ in range(200):
            row, shift, point = made.row(2), made.point(2), made.point(2)
            moved = moved_row(row, shift)
            self.assertTrue(is_plain(moved))
            self.assertEqual(keeps(moved, [plus(a, b) for a, b in zip(point, shift)]), keeps(row, point))
            self.assertEqual(moved_row(moved, [opposite(a) for a in shift]), plain_row(row))
            self.assertEqual(moved_row(row, [(0, 1), (0, 1)]), plain_row(row))

    def test_joined(self):
        one, other = (1, [((2,), 2)]), (1, [((0,), 5), ((1,), 1)])
        self.assertEqual(joined_system(one, other), (1, [((2,), 2), ((0,), 5), ((1,), 1)]))
        self.assertEqual(joined_system(system=other, other_system=(1, [])), other)
        self.assertIsNot(joined_system(other, (1, []))[1], other[1])
        half = (1, [((2,), 2)] * 100)
        self.assertEqual(len(joined_system(half, half)[1]), 200)
        with self.assertRaises(TooMany) as caught:
            joined_system(half, (1, half[1] + half[1][:1]))
        self.assertEqual(vars(caught.exception), {"what": "rows", "limit": 200})
        with self.assertRaises(UnlikeMany) as caught:
            joined_system((2, [((1, 1), 1)] * 200), half)
        self.assertEqual(vars(caught.exception), {"many": 2, "other": 1})


class Tidied(unittest.TestCase):
    def test_edges(self):
        self.assertEqual(tidied((2, [])), (2, []))
        self.assertEqual(tidied((0, [((), 0), ((), 7)])), (0, []))
        self.assertEqual(tidied((0, [((), 0), ((), -7)])), (0, [((), -1)]))
        self.assertEqual(tidied((1, [((1,), 1), ((0,), -2), ((0,), -1)])), (1, [((0,), -1)]))
        self.assertEqual(tidied((1, [((0,), 2), ((3,), 4), ((2,), 3), ((2,), 2)])), (1, [((1,), 1)]))
        self.assertEqual(tidied((1, [((1,), 1), ((-1,), -2)])), (1, [((-1,), -2), ((1,), 1)]))
        self.assertEqual(tidied((1, [((2,), 3), ((4,), 6), ((3,), 5)])), (1, [((2,), 3)]))
        self.assertEqual(tidied((2, [((2, 2), -3), ((3, 3), -5)])), (2, [((3, 3), -5)]))

    def test_facts(self):
        made = Made(9)
        for _ in range(300):
            system = made.system(made.number(0, 3), made.number(0, 8))
            many, rows = tidied(system)
            self.assertEqual(rows, sorted(rows))
            self.assertTrue(all(is_plain(row) and not is_idle(row) for row in rows))
            self.assertTrue(len(rows) == 1 or not any(is_false(row) for row in rows))
            self.assertEqual(tidied((many, rows)), (many, rows))
            self.assertEqual(tidied((many, made.mixed_up(system[1] + system[1][:2]))), (many, rows))
            for row in rows:
                for other in rows:
                    along = all(a * d == b * c for a, b in zip(*[row[0], other[0]])
                                for c, d in zip(row[0], other[0]))
                    ahead = sum(a * b for a, b in zip(row[0], other[0])) > 0
                    self.assertTrue(row == other or not (along and ahead))
            for _ in range(5):
                point = made.point(many)
                self.assertEqual(broken_rows(system, point) == [], broken_rows((many, rows), point) == [])

    def test_room(self):
        # The room at a mix is the mix of the rooms.
        row, one, other = ((3, -2), 4), [(1, 2), (0, 1)], [(-1, 3), (5, 1)]
        mix = [plus(times((1, 4), a), times((3, 4), b)) for a, b in zip(one, other)]
        self.assertEqual(room_at(row, mix), plus(times((1, 4), room_at(row, one)), times((3, 4), room_at(row, other))))
        self.assertEqual(room_at(row, one), minus(whole(4), worth_at(row[0], one)))


if __name__ == "__main__":
    unittest.main()
