"""Families of lots, and their least hitting lots by both ways."""

import unittest
from itertools import combinations

from allreadings.hitting import hits, is_family, least_hitting, least_hitting_plain, thinned_family
from tests.made import STRANGE, Made, with_bools, with_kinds

NAMES = ["a", "b1", "c", "d", "e", "f", "g", "h", "i", "j2"]


def made_families(seed, count):
    made = Made(seed)
    yield from ([], [[]], [["a"]], [["a"], ["a"]], [["a"], ["b1"]], [["a", "b1"], []], [NAMES], [[name] for name in NAMES],
                [["a", "b1"], ["b1", "c"], ["a", "c"]])
    for _ in range(count):
        names = NAMES[:made.number(1, 6)]
        size = made.number(0, 5)
        family = [[name for name in names if made.number(0, 1)] for _ in range(made.number(0, 7))]
        yield [lot for lot in family if len(lot) != size]


class Families(unittest.TestCase):
    def test_is_family(self):
        good = [["a", "b1"], ["b1"], [], ["b1"]]
        for value in [[], [[]], [[], []], good, [NAMES], [[name] for name in NAMES], [["a"]] * 300]:
            self.assertIs(is_family(value=value), True, value)
        for other in [*with_bools(good), *with_kinds(good)]:
            self.assertIs(is_family(other), False, other)
        for value in STRANGE + [[["a"]] * 301, [NAMES, ["k"]], [["b", "a"]], [["a", "a"]], [["a", "1"]], [["A"]], [["a", None]], [[["a"]]],
                                [["a", 1]], ["a"], [[True]], [["abcdefghi"]], [[""]], (["a"],), [("a",)], [["a"], None], [None]]:
            self.assertIs(is_family(value), value in ([], [[]]) and isinstance(value, list), value)

    def test_hits(self):
        family = [["b", "c"], ["a", "b"], ["a", "b", "d"]]
        self.assertEqual([hits(lot=lot, family=family) for lot in [["b"], ["a"], ["a", "c"], [], ["a", "x"], ["b", "x"]]],
                         [True, False, True, False, False, True])
        self.assertEqual([hits([], []), hits(["a"], []), hits(["a"], [[]]), hits([], [[]])], [True, True, False, False])

    def test_made(self):
        several = 0
        for family in made_families(221, 300):
            before = repr(family)
            self.assertTrue(is_family(family))
            names = sorted({name for lot in family for name in lot})
            lots = [list(lot) for size in range(len(names) + 1) for lot in combinations(names, size)]
            hitting = [lot for lot in lots if all(set(lot) & set(other) for other in family)]
            least = sorted(lot for lot in hitting if not any(set(other) < set(lot) for other in hitting))
            self.assertEqual(least_hitting_plain(family=family), least)
            self.assertEqual(least_hitting(family=family), least)
            self.assertEqual([hits(lot, family) for lot in lots], [lot in hitting for lot in lots])
            thinned = sorted(lot for k, lot in enumerate(family)
                             if lot not in family[:k] and not any(set(other) < set(lot) for other in family))
            self.assertEqual(thinned_family(family=family), thinned)
            self.assertEqual(least_hitting(least), thinned)
            self.assertEqual(least_hitting(list(reversed(family))), least)
            self.assertEqual(least_hitting(family + family[:2]), least)
            self.assertEqual(repr(family), before)
            several += len(least) > 2
        self.assertGreater(several, 50)

    def test_edges(self):
        self.assertEqual([least_hitting([]), least_hitting_plain([]), thinned_family([])], [[[]], [[]], []])
        for family in [[[]], [["a"], []], [[], []]]:
            self.assertEqual([least_hitting(family), least_hitting_plain(family), thinned_family(family)], [[], [], [[]]])
        self.assertEqual(thinned_family([["b"], ["a", "c"], ["b"], ["a", "b"], ["a", "c", "d"]]), [["a", "c"], ["b"]])

    def test_many_lots(self):
        fives = [list(lot) for lot in combinations(sorted(NAMES), 5)]
        sixes = sorted(list(lot) for lot in combinations(sorted(NAMES), 6))
        family = fives + fives[:48]
        self.assertTrue(is_family(family) and len(family) == 300)
        self.assertEqual(least_hitting(family), sixes)
        self.assertEqual(least_hitting_plain(family), sixes)
        self.assertEqual(thinned_family(family), sorted(fives))
        self.assertEqual(least_hitting(sixes), sorted(fives))

    def test_results_are_new(self):
        family = [["a"], ["b"]]
        for function in (thinned_family, least_hitting, least_hitting_plain):
            told = function(family)
            for lot in told:
                lot.append("z")
            told.clear()
            self.assertEqual(family, [["a"], ["b"]])


if __name__ == "__main__":
    unittest.main()
