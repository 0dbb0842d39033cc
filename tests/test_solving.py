"""Systems settled, both ways, and the judges of clashes."""

import math
import unittest

from allreadings.clashes import follows, gap_at, is_clash, is_drift, is_tight, is_weights, plain_settled, rank_of
from allreadings.clashes import weighed
from allreadings.errors import InvalidMany, TooMany
from allreadings.fractions import compare, fraction, times
from allreadings.points import is_point
from allreadings.rowsof import broken_rows, keeps, sum_of
from allreadings.solving import clash_of, has_point, point_of, settled
from tests.made import BIG, STRANGE, Made, changed, with_bools, with_kinds

EDGES = [
    (0, []), (0, [((), 0)]), (0, [((), -1)]), (0, [((), 5), ((), -3), ((), -1)]),
    (1, []), (20, []), (1, [((0,), 0)]), (1, [((0,), -1)]), (1, [((1,), 1), ((0,), -2)]),
    (2, [((0, 0), 3), ((0, 0), 0)]), (1, [((1,), 0), ((-1,), 0)]), (1, [((1,), 0), ((-1,), -1)]),
    (1, [((2,), 1), ((2,), 1), ((-2,), -1)]), (1, [((BIG,), 1), ((-BIG,), -1)]), (1, [((BIG,), 1), ((1 - BIG,), -1)]),
    (2, [((1, -1), 0), ((-1, 1), 0)]), (2, [((1, -1), 0), ((-1, 1), -1)]),
    (2, [((1, 1), -1), ((-1, 0), 0), ((0, -1), 0)]), (3, [((1, 1, 1), -1), ((1, -1, 0), 0), ((-1, 0, -1), 0)]),
]


def made_systems(seed, count):
    made = Made(seed)
    for _ in range(count):
        yield made.system(made.number(0, 4), made.number(0, 9), made.one_of([1, 2, 5, BIG]))


def is_tight_by_words(system, weights):
    """TIGHT as it is told: without any one weighed row the others have a point."""
    places = weighed(weights)
    return is_clash(system, weights) and all(
        has_point((system[0], [system[1][k] for k in places if k != left])) for left in places)


def wide(uppers, lowers, others):
    """A system of which uppers times lowers and others are left when the last unknown is taken out."""
    rows = [((100 * k, 1), k) for k in range(1, uppers + 1)]
    rows += [((k, -1), 2 * k * k) for k in range(1, lowers + 1)]
    return (2, rows + [((7919, 0), 3 + k) for k in range(others)])


class Settled(unittest.TestCase):
    def check(self, system):
        before = (system[0], list(system[1]))
        word, told = settled(system)
        self.assertEqual(settled(system), (word, told))
        self.assertIn(word, ("point", "clash"))
        if word == "point":
            self.assertTrue(is_point(told, system[0]))
            self.assertEqual(broken_rows(system, told), [])
        else:
            self.assertTrue(is_clash(system, told))
            self.assertTrue(is_tight(system, told))
            self.assertTrue(is_tight_by_words(system, told))
            self.assertLessEqual(len(weighed(told)), system[0] + 1)
        self.assertIs(has_point(system), word == "point")
        point, clash = point_of(system), clash_of(system)
        self.assertEqual([point is None, clash is None], [word == "clash", word == "point"])
        self.assertTrue(point is None or broken_rows(system, point) == [])
        self.assertTrue(clash is None or is_tight(system, clash))
        self.assertEqual(system, before)
        return word

    def check_plain(self, system, word):
        try:
            plain, told = plain_settled(system)
        except TooMany as error:
            self.assertEqual((error.what, error.limit), ("rows", 400))
            return
        self.assertEqual(plain, word)
        if plain == "point":
            self.assertTrue(is_point(told, system[0]))
            self.assertEqual(broken_rows(system, told), [])
        else:
            self.assertTrue(is_clash(system, told))

    def test_edges(self):
        words = []
        for system in EDGES:
            word = self.check(system)
            self.check_plain(system, word)
            words.append(word[0])
        self.assertEqual("".join(words), "ppccpppccppcppcpccp")
        self.assertEqual(settled((0, [])), ("point", []))
        self.assertEqual(weighed(clash_of((0, [((), 5), ((), -3), ((), -1)]))), [1])

    def test_made(self):
        words = {"point": 0, "clash": 0}
        for system in made_systems(1, 400):
            word = self.check(system)
            words[word] += 1
            self.check_plain(system, word)
        self.assertGreater(min(words.values()), 100)

    def test_sequence_and_doubling(self):
        made = Made(2)
        for system in made_systems(3, 150):
            word = settled(system)[0]
            other = (system[0], made.mixed_up(system[1] + system[1][:3]))
            self.assertEqual(self.check(other), word)
            self.check_plain(other, word)

    def test_many_rows_and_unknowns(self):
        made = Made(4)
        for many, count in [(20, 30), (20, 60), (5, 200), (3, 400)]:
            point = [made.number(-3, 3) for _ in range(many)]
            rows = []
            for _ in range(count):
                numbers = made.numbers(many, 3)
                rows.append((numbers, sum(a * b for a, b in zip(numbers, point)) + made.number(0, 2)))
            self.assertEqual(self.check((many, rows)), "point")
            worth = sum(point)
            rows += [((1,) * many, worth - 50), ((-1,) * many, 30 - worth)]
            self.assertEqual(self.check((many, rows)), "clash")

    def test_how_far_fractions_grow(self):
        made = Made(5)
        for _ in range(120):
            many, digits = made.number(0, 5), made.one_of([1, 3, 30])
            size = 10 ** digits - 1
            rows = [(made.numbers(many, size), made.number(-size, size)) for _ in range(made.number(0, 9))]
            bound = math.factorial(many + 1) * 10 ** (digits * (many + 1))
            for above, below in settled((many, rows))[1]:
                self.assertLessEqual(abs(above), bound)
                self.assertLessEqual(below, bound)

    def test_by_name(self):
        system = (1, [((1,), 1)])
        self.assertEqual(settled(system=system)[0], "point")
        self.assertEqual(plain_settled(system=system)[0], "point")
        self.assertTrue(has_point(system=system))
        self.assertIsNotNone(point_of(system=system))
        self.assertIsNone(clash_of(system=system))


class PlainWay(unittest.TestCase):
    def test_rows_left(self):
        self.assertEqual(plain_settled(wide(20, 20, 0))[0], "point")
        self.assertEqual(plain_settled(wide(19, 21, 1))[0], "point")
        for system in [wide(20, 20, 1), wide(20, 21, 0), wide(100, 100, 0)]:
            with self.assertRaises(TooMany) as caught:
                plain_settled(system)
            self.assertEqual(vars(caught.exception), {"what": "rows", "limit": 400})
            self.assertEqual(settled(system)[0], "point")

    def test_equal_rows_count_once(self):
        many, rows = wide(20, 20, 0)
        doubled = [(tuple(3 * number for number in numbers), 3 * most) for numbers, most in rows]
        self.assertEqual(plain_settled((many, rows + doubled + [((0, 0), 5)]))[0], "point")

    def test_rows_along_one_another_count_each(self):
        # Rounds are not made tidy: of rows along one another but with unlike mosts both count.
        many, rows = wide(20, 20, 0)
        self.assertEqual(plain_settled((many, rows))[0], "point")
        with self.assertRaises(TooMany):
            plain_settled((many, rows + [((1, 0), 8), ((1, 0), 9)]))

    def test_a_false_row_ends_the_rounds(self):
        many, rows = wide(20, 21, 0)
        for more in [[((0, 0), -2)], [((1, 0), 0), ((0, 1), 0), ((0, -1), -1)]]:
            word, told = plain_settled((many, rows + more))
            self.assertEqual(word, "clash")
            self.assertTrue(is_clash((many, rows + more), told))

    def test_the_worths_put_back(self):
        self.assertEqual(plain_settled((2, [((0, -1), -3), ((1, 0), 5)])), ("point", [(5, 1), (3, 1)]))
        self.assertEqual(plain_settled((3, [])), ("point", [(0, 1)] * 3))


class Judges(unittest.TestCase):
    NONE = (1, [((2,), 1), ((-1,), -1), ((1,), 5)])

    def test_is_weights(self):
        for weights in [[], [(0, 1)], [(1, 2), (0, 1)], [(BIG, 1)] * 3]:
            for many in range(4):
                self.assertIs(is_weights(weights, many), many == len(weights))
            for value in [*with_bools(weights), *with_kinds(weights)]:
                self.assertIs(is_weights(value, len(weights)), False)
        self.assertIs(is_weights([(-1, 2)], 1), False)
        self.assertIs(is_weights([(2, 4)], 1), False)
        self.assertIs(is_weights([(0, 1)] * 5000, 5000), True)
        for value in STRANGE + list(changed([(1, 2), (0, 1)])):
            self.assertIsInstance(is_weights(value=value, many=2), bool)
        for many in [-1, True, None, "1"]:
            with self.assertRaises(InvalidMany) as caught:
                is_weights([], many)
            self.assertIs(caught.exception.value, many)

    def test_is_clash(self):
        good = [[(1, 1), (2, 1), (0, 1)], [(10, 1), (21, 1), (1, 1)], [(1, 3), (2, 3), (0, 1)]]
        for weights in good:
            self.assertIs(is_clash(self.NONE, weights), True)
            for value in [*with_bools(weights), *with_kinds(weights)]:
                self.assertIs(is_clash(self.NONE, value), False)
        self.assertEqual([is_tight(self.NONE, weights) for weights in good], [True, False, True])
        bad = [[], [(0, 1)] * 3, [(1, 1), (2, 1)], [(1, 1), (2, 1), (0, 1), (0, 1)], [(1, 1), (1, 1), (0, 1)],
               [(-1, 1), (-2, 1), (0, 1)], [(2, 1), (5, 1), (1, 1), (0, 1)], [(0, 1), (1, 1), (1, 1)],
               [(0, 1), (1, 1), (0, 1)], [(1, 1), (3, 1), (0, 1)], [(1, 1), (7, 4), (0, 1)], [(0, 1), (5, 1), (1, 2)]]
        for weights in bad:
            self.assertEqual([is_clash(self.NONE, weights), is_tight(self.NONE, weights)], [False, False])
        self.assertIs(is_clash((0, [((), 0)]), [(1, 1)]), False)
        self.assertIs(is_clash((0, [((), -1), ((), 1)]), [(1, 1), (1, 1)]), False)
        self.assertIs(is_tight((0, [((), -1), ((), 1)]), [(2, 1), (1, 1)]), False)
        self.assertIs(is_tight((0, [((), -1), ((), 1)]), [(2, 1), (0, 1)]), True)

    def test_any_value(self):
        for function in (is_clash, is_tight):
            for value in STRANGE + list(changed([(1, 1), (2, 1), (0, 1)])):
                self.assertIsInstance(function(system=self.NONE, value=value), bool)
        row = ((2,), 1)
        for value in STRANGE + list(changed([(1, 1), (0, 1), (0, 1)])):
            self.assertIsInstance(follows(system=self.NONE, row=row, value=value), bool)
        for value in STRANGE + list(changed((-1,))):
            self.assertIsInstance(is_drift(system=(1, [((1,), 1)]), value=value), bool)

    def test_tight_by_rank_and_by_words(self):
        seen = {True: 0, False: 0}
        for system in made_systems(7, 500):
            clash = clash_of(system)
            if clash is not None and len(system[1]) > 1:
                other = clash_of((system[0], system[1][1:]))
                clashes = [clash, [times(weight, (7, 3)) for weight in clash]]
                if other is not None:
                    clashes.append([fraction(a[0] * b[1] + b[0] * a[1], a[1] * b[1])
                                    for a, b in zip(clash, [(0, 1)] + other)])
                for weights in clashes:
                    tight = is_tight(system, weights)
                    self.assertIs(tight, is_tight_by_words(system, weights))
                    seen[tight] += 1
        self.assertGreater(seen[False], 20)

    def test_follows(self):
        system = (2, [((1, 1), 4), ((-1, 0), -1), ((0, -1), -1)])
        self.assertIs(follows(system, ((1, 0), 3), [(1, 1), (0, 1), (1, 1)]), True)
        self.assertIs(follows(system, ((1, 0), 7), [(1, 1), (0, 1), (1, 1)]), True)
        self.assertIs(follows(system, ((1, 0), 2), [(1, 1), (0, 1), (1, 1)]), False)
        self.assertIs(follows(system, ((2, 0), 6), [(1, 1), (0, 1), (1, 1)]), False)
        self.assertIs(follows(system, ((1, 0), 3), [(1, 1), (0, 1), (1, 1), (0, 1)]), False)
        self.assertIs(follows(system, ((-1, 1), 5), [(1, 1), (2, 1), (0, 1)]), True)
        self.assertIs(follows(system, ((0, 0), 0), [(0, 1)] * 3), True)
        self.assertIs(follows(system, ((0, 0), -1), [(0, 1)] * 3), False)
        self.assertIs(follows((1, []), ((0,), 0), []), True)
        self.assertIs(follows((1, [((-1,), 0)]), ((1,), 0), [(-1, 1)]), False)
        for value in [*with_bools([(1, 1), (0, 1), (1, 1)]), *with_kinds([(1, 1), (0, 1), (1, 1)])]:
            self.assertIs(follows(system, ((1, 0), 3), value), False)
        made = Made(8)
        for system in made_systems(9, 200):
            weights = [fraction(made.number(0, 3), made.number(1, 3)) for _ in system[1]]
            numbers, most = sum_of(system, weights)
            if all(number[1] == 1 for number in numbers):
                row = (tuple(number[0] for number in numbers), -(-most[0] // most[1]))
                self.assertTrue(follows(system, row, weights))
                self.assertFalse(follows(system, (row[0], row[1] - 1), weights))

    def test_is_drift(self):
        system = (2, [((1, 1), -4), ((-1, 0), 3)])
        for drift in [(0, 0), (0, -1), (2, -2), (BIG, -BIG)]:
            self.assertIs(is_drift(system, drift), True)
        for value in [(0, 1), (-1, 0), (1, 0), [0, -1], (0,), (0, -1, 0), (False, -1), None, "x", (0, None)]:
            self.assertIs(is_drift(system, value), False)
        self.assertEqual([is_drift((0, [((), -1)]), ()), is_drift((0, []), [])], [True, False])

    def test_weighed_and_rank(self):
        self.assertEqual(weighed([(0, 1), (1, 2), (-3, 1), (0, 1)]), [1, 2])
        self.assertEqual([weighed([]), rank_of([]), rank_of([(), ()]), rank_of([(0, 0)])], [[], 0, 0, 0])
        self.assertEqual(rank_of(rows=[(1, 2, 3), (4, 5, 6), (7, 8, 9)]), 2)
        self.assertEqual(rank_of([(BIG, 1), (BIG - 1, 1)]), 2)
        self.assertEqual(rank_of([(BIG, BIG), (-1, -1), (0, 0)]), 1)
        made = Made(10)
        for _ in range(150):
            many, rank = made.number(1, 5), made.number(0, 4)
            base = [made.numbers(many, 4) for _ in range(rank)]
            least = rank_of(base)
            rows = [tuple(sum(a * row[k] for a, row in zip(parts, base)) for k in range(many))
                    for parts in [made.numbers(rank, 3) for _ in range(6)]]
            self.assertLessEqual(least, min(rank, many))
            self.assertEqual(rank_of(base + rows), least)
            self.assertEqual(rank_of(made.mixed_up(base + rows)), least)
            self.assertEqual(rank_of([row + (0,) for row in base] + [(0,) * many + (5,)]), least + 1)


class Gaps(unittest.TestCase):
    def test_gaps(self):
        system = (2, [((1, 2), 4), ((0, -3), 2), ((1, 0), -9), ((-1, 1), 5)])
        self.assertEqual(gap_at(system, [(1, 1), (77, 1)], 1), ((-2, 3), (3, 2)))
        self.assertEqual(gap_at(system, [(77, 1), (1, 1)], 0), ((-4, 1), (-9, 1)))
        self.assertEqual(gap_at((1, []), [(3, 1)], 0), (None, None))
        self.assertEqual(gap_at((1, [((2,), 3)]), [(3, 1)], 0), (None, (3, 2)))
        self.assertEqual(gap_at(system=(1, [((-2,), 3), ((0,), -1)]), point=[(3, 1)], place=0), ((-3, 2), None))

    def test_the_numbers_of_the_gap_make_points(self):
        made = Made(11)
        for _ in range(200):
            many = made.number(1, 3)
            system, point, place = made.system(many, made.number(0, 6)), made.point(many), made.number(0, many - 1)
            before = list(point)
            low, high = gap_at(system, point, place)
            self.assertEqual(point, before)
            rows = [row for row in system[1] if row[0][place]]
            for _ in range(6):
                point[place] = made.fraction()
                self.assertEqual(gap_at(system, point, place), (low, high))
                inside = (low is None or compare(low, point[place]) <= 0) and (
                    high is None or compare(point[place], high) <= 0)
                self.assertEqual(inside, all(keeps(row, point) for row in rows))


if __name__ == "__main__":
    unittest.main()
