"""Lots of readings: which hold, which clash, which are least; their papers and judges."""

import unittest
from itertools import combinations

from allreadings.allrows import all_rows
from allreadings.conflicts import is_least_lot, is_least_paper, is_lot_paper, least_lots_plain, least_paper, left_lot
from allreadings.conflicts import lot_by_papers, lot_holds, lot_of, lot_paper, other_lot, readings_of
from allreadings.courses import course_of
from allreadings.errors import NotLeast, StrangeLabel, TooMany, TwiceLabel
from tests.apart import allows_apart, check_refusals, shows_clash
from tests.made import STRANGE, MadeWorlds, doubled, made_conflicts
from tests.test_courses import GROW

THREE = [("r1", "a", 1, (5, 1)), ("r2", "a", 0, (0, 1)), ("r3", "a", 0, (3, 1))]
AGAINST = (1, 2, [((1,), -1), ((-1,), 0)], [[]], [("a", (1,), (1, 1))])
# Each two of three readings of a point of the plane agree, all three do not.
PLANE = (2, 1, [], [], [("x", (1, 0), (0, 1)), ("y", (0, 1), (0, 1)), ("z", (1, 1), (0, 1))])
ROUND = [("r3", "z", 0, (5, 1)), ("r1", "x", 0, (1, 1)), ("r2", "y", 0, (2, 1))]


def lots_of(readings):
    """All lots, those with fewer labels first."""
    labels = sorted(reading[0] for reading in readings)
    return [list(lot) for size in range(len(labels) + 1) for lot in combinations(labels, size)]


def is_in(lot, other):
    return set(lot) <= set(other)


def is_right_lot_paper(world, readings, lot, value):
    kept = [reading for reading in readings if reading[0] in lot]
    if value[0] == "course":
        return allows_apart(world, kept, value[1])
    return value[0] == "clash" and shows_clash(all_rows(world, kept), value[1])


class Labels(unittest.TestCase):
    def test_lots(self):
        self.assertEqual(lot_of(readings=THREE, labels=["r3", "r1"]), ["r1", "r3"])
        self.assertEqual([lot_of(THREE, []), lot_of([], [])], [[], []])
        self.assertEqual(readings_of(readings=ROUND, lot=["r1", "r3"]), [ROUND[0], ROUND[1]])
        self.assertEqual([readings_of(ROUND, []), readings_of(ROUND, ["r1", "r2", "r3"])], [[], ROUND])
        self.assertEqual([other_lot(readings=ROUND, lot=["r2"]), other_lot(ROUND, []), other_lot(ROUND, ["r1", "r2", "r3"])],
                         [["r1", "r3"], ["r1", "r2", "r3"], []])
        tens = [("r10", "a", 0, (0, 1)), ("r9", "a", 0, (0, 1))]
        self.assertEqual([lot_of(tens, ["r9", "r10"]), other_lot(tens, [])], [["r10", "r9"]] * 2)

    def test_strange_and_twice(self):
        for labels, expected in [(["r1", "x", "y"], "x"), (["q"], "q"), (["r1", "r1", "z"], "z")]:
            with self.assertRaises(StrangeLabel) as caught:
                lot_of(THREE, labels)
            self.assertEqual(caught.exception.label, expected)
        for labels, expected in [(["r1", "r1"], "r1"), (["r2", "r3", "r1", "r3", "r2"], "r3")]:
            with self.assertRaises(TwiceLabel) as caught:
                lot_of(THREE, labels)
            self.assertEqual(caught.exception.label, expected)
        with self.assertRaises(StrangeLabel):
            lot_of([], ["r1"])


class Holding(unittest.TestCase):
    def test_made(self):
        counts = {"holds": 0, "clashes": 0, "least": 0}
        for made, world, readings in made_conflicts(211, 60, 5):
            before = repr((world, readings))
            holding = {}
            for lot in lots_of(readings):
                told = lot_paper(world, readings, lot)
                self.assertTrue(is_right_lot_paper(world, readings, lot, told))
                self.assertIs(is_lot_paper(world, readings, lot, told), True)
                holding[tuple(lot)] = told[0] == "course"
                self.assertIs(lot_holds(world=world, readings=readings, lot=lot), told[0] == "course")
                counts["holds" if told[0] == "course" else "clashes"] += 1
                for label in lot:
                    if holding[tuple(lot)]:
                        self.assertTrue(holding[tuple(other for other in lot if other != label)])
            leasts = [lot for lot in lots_of(readings) if not holding[tuple(lot)]
                      and all(holding[tuple(other)] for other in lots_of(readings) if is_in(other, lot) and other != lot)]
            self.assertEqual(least_lots_plain(world=world, readings=readings), sorted(leasts))
            counts["least"] += len(leasts)
            for lot in lots_of(readings):
                self.check_lot(world, readings, lot, holding, leasts)
            self.assertEqual(least_lots_plain(world, made.mixed_up(readings)), sorted(leasts))
            self.assertEqual(repr((world, readings)), before)
        self.assertGreater(min(counts.values()), 30, counts)

    def check_lot(self, world, readings, lot, holding, leasts):
        self.assertIs(is_least_lot(world=world, readings=readings, lot=lot), lot in leasts)
        left, by_papers = left_lot(world, readings, lot), lot_by_papers(world, readings, lot)
        if holding[tuple(lot)]:
            self.assertEqual((left, by_papers), (None, None))
        else:
            # From the greatest label on, each is left out if what is then left still clashes.
            expected = list(lot)
            for label in sorted(lot, reverse=True):
                without = [other for other in expected if other != label]
                if not holding[tuple(without)]:
                    expected = without
            self.assertEqual(left, expected)
            self.assertIn(left, leasts)
            self.assertIn(by_papers, leasts)
            self.assertTrue(is_in(by_papers, lot) and is_in(left, lot))
        if lot in leasts:
            word, weights, courses = paper = least_paper(world, readings, lot)
            self.assertEqual((word, len(paper), len(courses)), ("least", 3, len(lot)))
            self.assertTrue(shows_clash(all_rows(world, readings_of(readings, lot)), weights))
            for label, course in zip(lot, courses):
                kept = [reading for reading in readings if reading[0] in lot and reading[0] != label]
                self.assertTrue(allows_apart(world, kept, course))
            self.assertIs(is_least_paper(world, readings, lot, paper), True)
        else:
            with self.assertRaises(NotLeast) as caught:
                least_paper(world, readings, lot)
            self.assertEqual(caught.exception.lot, lot)

    def test_doubled(self):
        """A reading doubled under another label stands in for it in each least lot."""
        for _, world, readings in made_conflicts(212, 30, 5):
            leasts = least_lots_plain(world, readings)
            if readings:
                label = readings[0][0]
                more = [sorted("zz" if name == label else name for name in lot) for lot in leasts if label in lot]
                self.assertEqual(least_lots_plain(world, doubled(readings)), sorted(leasts + more))

    def test_one_two_three(self):
        self.assertEqual(least_lots_plain(GROW, THREE), [["r1", "r2"], ["r2", "r3"]])
        self.assertEqual(least_lots_plain(PLANE, ROUND), [["r1", "r2", "r3"]])
        self.assertEqual([left_lot(PLANE, ROUND, ["r1", "r2", "r3"]), lot_by_papers(PLANE, ROUND, ["r1", "r2", "r3"])],
                         [["r1", "r2", "r3"]] * 2)
        one = [("r", "a", 0, (-5, 1)), ("s", "a", 1, (1, 1))]
        self.assertEqual(least_lots_plain(GROW, one), [["r"]])
        self.assertEqual([left_lot(GROW, one, ["r", "s"]), lot_by_papers(GROW, one, ["r", "s"])], [["r"]] * 2)
        self.assertEqual(least_lots_plain(GROW, THREE[:1]), [])

    def test_left_from_the_greatest_label_on(self):
        # The least lots are r1 r2 and r2 r3; leaving out r3 first, r1 and r2 are left.
        self.assertEqual(left_lot(GROW, THREE, ["r1", "r2", "r3"]), ["r1", "r2"])
        turned = [("r3", "a", 1, (5, 1)), ("r2", "a", 0, (0, 1)), ("r1", "a", 0, (3, 1))]
        self.assertEqual(left_lot(GROW, turned, ["r1", "r2", "r3"]), ["r1", "r2"])
        self.assertIn(lot_by_papers(GROW, turned, ["r1", "r2", "r3"]), [["r1", "r2"], ["r2", "r3"]])
        self.assertEqual(left_lot(GROW, turned, ["r2", "r3"]), ["r2", "r3"])

    def test_no_course_at_all(self):
        readings = [("r", "a", 0, (1, 1)), ("s", "a", 1, (9, 1))]
        self.assertIsNone(course_of(AGAINST, []))
        self.assertEqual(least_lots_plain(AGAINST, readings), [[]])
        self.assertEqual(least_lots_plain(AGAINST, []), [[]])
        for lot in lots_of(readings):
            self.assertIs(lot_holds(AGAINST, readings, lot), False)
            self.assertIs(is_least_lot(AGAINST, readings, lot), lot == [])
            self.assertEqual((left_lot(AGAINST, readings, lot), lot_by_papers(AGAINST, readings, lot)), ([], []))
        paper = least_paper(AGAINST, readings, [])
        self.assertEqual((paper[0], len(paper[1]), paper[2]), ("least", 2, []))
        self.assertTrue(is_least_paper(AGAINST, readings, [], paper))

    def test_ten_and_eleven(self):
        readings = [(f"r{k}", "a", 0, (3 * (k % 2), 1)) for k in range(10)]
        expected = [sorted([f"r{k}", f"r{j}"]) for k in range(0, 10, 2) for j in range(1, 10, 2)]
        self.assertEqual(least_lots_plain(GROW, readings), sorted(expected))
        with self.assertRaises(TooMany) as caught:
            least_lots_plain(GROW, readings + [("s", "a", 0, (0, 1))])
        self.assertEqual((caught.exception.what, caught.exception.limit), ("readings", 10))
        many = [(f"r{k}", "a", 0, (3, 1)) for k in range(30)]
        self.assertIs(lot_holds(GROW, many, lot_of(many, [f"r{k}" for k in range(30)])), True)
        self.assertEqual(left_lot(GROW, many[:-1] + [("r29", "a", 0, (0, 1))], sorted(f"r{k}" for k in range(30))), ["r0", "r29"])

    def test_two_sides(self):
        """Readings of two worths that are too far apart: each of the ones clashes with each of the others."""
        names = "abcdefghij"
        made = MadeWorlds(5)
        readings = [(name, "a", 0, (made.number(0, 1) * 9, 1)) for name in names]
        nines = [reading[0] for reading in readings if reading[3] == (9, 1)]
        noughts = [name for name in names if name not in nines]
        self.assertEqual(least_lots_plain(GROW, readings), sorted(sorted([k, j]) for k in nines for j in noughts))


class Judges(unittest.TestCase):
    def test_lot_papers(self):
        for lot in [["r1", "r3"], ["r1", "r2"], ["r1", "r2", "r3"], []]:
            check_refusals(self, lambda value: is_lot_paper(GROW, THREE, lot, value), lot_paper(GROW, THREE, lot),
                           lambda value: is_right_lot_paper(GROW, THREE, lot, value),
                           [("course", None), ("course", []), ("clash", None), ("course",), ("clash", [], []), ("course", [[]])])
        paper = lot_paper(GROW, THREE, ["r1", "r2"])
        self.assertIs(is_lot_paper(GROW, THREE, ["r2", "r3"], paper), False)
        self.assertIs(is_lot_paper(GROW, THREE, ["r1", "r2", "r3"], paper), False)
        course = [[(9, 4)], [(4, 1)]]
        self.assertIs(is_lot_paper(GROW, THREE, ["r1", "r3"], ("course", course)), True)
        self.assertIs(is_lot_paper(GROW, THREE, ["r1", "r2"], ("course", course)), False)

    def test_least_papers(self):
        def is_right(world, readings, lot, value):
            if value[0] != "least" or not shows_clash(all_rows(world, readings_of(readings, lot)), value[1]):
                return False
            others = [[other for other in lot if other != label] for label in lot]
            return len(value[2]) == len(lot) and all(
                allows_apart(world, readings_of(readings, other), course) for other, course in zip(others, value[2]))
        for world, readings, lot in [(GROW, THREE, ["r1", "r2"]), (PLANE, ROUND, ["r1", "r2", "r3"]), (AGAINST, THREE, [])]:
            paper = least_paper(world, readings, lot)
            check_refusals(self, lambda value: is_least_paper(world, readings, lot, value), paper,
                           lambda value: is_right(world, readings, lot, value),
                           [("least", None, None), ("least", [], []), ("least", [], [None, None]), ("least",), ("clash", [], [])])
        word, weights, courses = paper = least_paper(GROW, THREE, ["r1", "r2"])
        self.assertIs(is_least_paper(GROW, THREE, ["r2", "r3"], paper), False)
        for value in [(word, weights, courses[::-1]), (word, weights, courses[:1]), (word, weights, courses + courses[:1]),
                      (word, weights[:-1], courses), (word, [(0, 1)] * len(weights), courses), ("lest", weights, courses)]:
            self.assertIs(is_least_paper(GROW, THREE, ["r1", "r2"], value), False)
        for value in STRANGE:
            self.assertIs(is_least_paper(GROW, THREE, ["r1", "r2"], ("least", weights, value)), False)
            self.assertIs(is_least_paper(GROW, THREE, ["r1", "r2"], ("least", value, courses)), False)
            self.assertIs(is_least_paper(GROW, THREE, ["r1", "r2"], ("least", weights, [courses[0], value])), False)


if __name__ == "__main__":
    unittest.main()
