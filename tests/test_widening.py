"""Raised worlds, widened systems, least extras with their papers and judge."""

import unittest

from allreadings.courses import course_of
from allreadings.errors import TooMany
from allreadings.fractions import compare
from allreadings.questions import plain_ends
from allreadings.rowsof import is_plain, is_system, keeps
from allreadings.widening import is_extra_paper, least_extra, raised_world, widened
from allreadings.worlds import is_world
from tests.apart import allows_apart, check_refusals, rows_apart, shows_clash, shows_row, worth_apart
from tests.made import STRANGE, doubled, exact, made_conflicts, told
from tests.test_conflicts import AGAINST, PLANE, ROUND, THREE
from tests.test_courses import GROW


def is_right_extra(world, readings, value):
    """Whether an extra paper shows what it says, reckoned apart."""
    many = world[0] * world[1]
    if value[0] == "none":
        rows = [(tuple(numbers), most) for numbers, most in rows_apart(world, [])]
        return shows_clash((many, rows), value[1])
    word, amount, course, weights = value
    if word != "extra" or amount[0] < 0 or not allows_apart(raised_world(world, amount), readings, course):
        return False
    return shows_row(widened(world, readings), ((0,) * many + (-amount[1],), -amount[0]), weights)


class Widening(unittest.TestCase):
    def test_raised(self):
        world = (2, 1, [((1, 0), 1)], [], [("a", (1, 2), (1, 2)), ("b", (0, 1), (0, 1))])
        self.assertEqual(raised_world(world=world, extra=(1, 2)),
                         (2, 1, [((1, 0), 1)], [], [("a", (1, 2), (1, 1)), ("b", (0, 1), (1, 2))]))
        self.assertEqual(raised_world(world, (0, 1)), world)
        for made, world, _ in made_conflicts(241, 20):
            raised = raised_world(world, (made.number(0, 9), 1))
            self.assertTrue(is_world(raised))
            self.assertEqual(raised[:4], world[:4])

    def test_rows(self):
        for made, world, readings in made_conflicts(242, 60):
            many, rows = widened(world=world, readings=readings)
            size = world[0] * world[1]
            self.assertEqual((many, len(rows)), (size + 1, len(rows_apart(world, readings)) + 1))
            self.assertTrue(is_system((many, rows)) and all(is_plain(row) for row in rows))
            self.assertEqual(rows[-1], ((0,) * size + (-1,), 0))
            course = [made.point(world[0]) for _ in range(world[1])]
            extra = told(abs(exact(made.fraction())))
            point = [a for stand in course for a in stand] + [extra]
            ahead = len(rows_apart(world, []))
            for k, (numbers, most) in enumerate(rows_apart(world, readings)):
                room = most + (exact(extra) if k >= ahead else 0)
                self.assertIs(keeps(rows[k], point), worth_apart(numbers, course) <= room)

    def test_made(self):
        counts = {"nought": 0, "more": 0, "none": 0}
        for made, world, readings in made_conflicts(243, 150, 8):
            before = repr((world, readings))
            paper = least_extra(world=world, readings=readings)
            self.assertTrue(is_right_extra(world, readings, paper), (world, readings, paper))
            self.assertIs(is_extra_paper(world, readings, paper), True)
            self.assertIs(paper[0] == "none", course_of(world, []) is None)
            if paper[0] == "none":
                counts["none"] += 1
                continue
            self.assertIs(paper[1] == (0, 1), course_of(world, readings) is not None)
            counts["nought" if paper[1] == (0, 1) else "more"] += 1
            self.assertIsNotNone(course_of(raised_world(world, paper[1]), readings))
            if paper[1] != (0, 1):
                less = told(exact(paper[1]) * 999 / 1000)
                self.assertIsNone(course_of(raised_world(world, less), readings))
            self.assertEqual(least_extra(world, doubled(made.mixed_up(readings)))[1], paper[1])
            if readings:
                self.assertGreaterEqual(compare(paper[1], least_extra(world, readings[1:])[1]), 0)
            self.assertEqual(repr((world, readings)), before)
        self.assertGreater(min(counts.values()), 2, counts)
        self.assertGreater(counts["more"], 20, counts)

    def test_plain_way(self):
        """The least extra is the least end of one more number of a stand, where there is room for it in a world."""
        for _, world, readings in made_conflicts(244, 60, 4):
            many, moments, start, steps, sensors = world
            if moments != 1 or many != 1:
                continue
            twins = (2, 1, [(row[0] + (0,), row[1]) for row in start], [], [])
            linears = [([(0, row[0])], row[1]) for row in widened(world, readings)[1][len(start):] if any(row[0])]
            if len(linears) <= 4:
                ends = plain_ends(twins, [], [(0, (0, 1))], supposed=linears)
                paper = least_extra(world, readings)
                self.assertEqual(paper[1] if paper[0] == "extra" else None, ends[0] if ends else None)

    def test_edges(self):
        self.assertEqual(least_extra(GROW, THREE)[:3], ("extra", (1, 2), [[(3, 2)], [(7, 2)]]))
        self.assertEqual(least_extra(GROW, [])[:2], ("extra", (0, 1)))
        self.assertEqual(least_extra(PLANE, ROUND)[:2], ("extra", (2, 3)))
        for readings in [[], THREE]:
            told = least_extra(AGAINST, readings)
            self.assertEqual((told[0], len(told), len(told[1])), ("none", 2, 2))
            self.assertTrue(is_extra_paper(AGAINST, readings, told))
        # Slacks of nought; readings that agree just with their slacks.
        tight = (1, 1, [], [], [("a", (1,), (0, 1)), ("b", (3,), (1, 1))])
        self.assertEqual(least_extra(tight, [("r", "a", 0, (1, 1)), ("s", "a", 0, (4, 1))])[1], (3, 2))
        self.assertEqual(least_extra(tight, [("r", "a", 0, (1, 1)), ("s", "b", 0, (4, 1))])[1], (0, 1))
        self.assertEqual(least_extra(tight, [("r", "a", 0, (1, 1)), ("s", "b", 0, (5, 1))])[1], (1, 4))
        many = [(f"r{k}", "a", 0, (k, 1)) for k in range(30)]
        self.assertEqual(least_extra(tight, many)[1], (29, 2))


class Judge(unittest.TestCase):
    def test_changed(self):
        for world, readings in [(GROW, THREE), (GROW, THREE[:1]), (AGAINST, THREE), (PLANE, ROUND)]:
            check_refusals(self, lambda value: is_extra_paper(world, readings, value), least_extra(world, readings),
                           lambda value: is_right_extra(world, readings, value),
                           [("extra", None, None, None), ("extra", (0, 1), [], []), ("none", None), ("extra",), ("none",), ("none", []),
                            ("extra", (-1, 1), [], []), ("extra", True, [], [])])

    def test_wrong_parts(self):
        word, amount, course, weights = least_extra(GROW, THREE)
        noughts = [(0, 1)] * len(weights)
        last = noughts[:-1] + [(1, 1)]
        for value, expected in [((word, (1, 1), course, weights), False), ((word, (0, 1), course, last), False),
                                ((word, amount, course, noughts), False), ((word, (1, 4), course, weights), False),
                                ((word, amount, [[(5, 2)], [(7, 2)]], weights), False), ((word, amount, course[:1], weights), False),
                                ((word, amount, course, weights[:-1]), False), (("none", weights[:3]), False),
                                (("none", weights), False), ((word, (-1, 2), course, weights), False)]:
            self.assertIs(is_extra_paper(GROW, THREE, value), expected, value)
        # An extra of nought: the row follows from the last one.
        agree, calm = THREE[:1], [[(3, 1)], [(4, 1)]]
        last = [(0, 1)] * 5 + [(1, 1)]
        self.assertIs(is_extra_paper(GROW, agree, (word, (0, 1), calm, last)), True)
        self.assertIs(is_extra_paper(GROW, agree, (word, (0, 1), [[(1, 1)], [(4, 1)]], last)), False)
        self.assertIs(is_extra_paper(GROW, agree, (word, (1, 2), calm, last)), False)
        self.assertIs(is_extra_paper(GROW, THREE, least_extra(GROW, agree)), False)
        # Slacks that could be less are no extra below nought.
        for above, below in [(-1, 2), (-1, 1)]:
            less = [(0, 1)] * 5 + [(below, 1)]
            self.assertIs(is_extra_paper(GROW, agree, (word, (above, below), [[(4, 1)], [(5, 1)]], less)), False)
        for value in STRANGE:
            self.assertIs(is_extra_paper(GROW, THREE, (word, value, course, weights)), False)
            self.assertIs(is_extra_paper(GROW, THREE, (word, amount, value, weights)), False)
            self.assertIs(is_extra_paper(GROW, THREE, (word, amount, course, value)), False)

    def test_no_bound_on_readings(self):
        readings = [(f"r{k}", "a", 0, (k, 1)) for k in range(11)]
        try:
            paper = least_extra(GROW, readings)
        except TooMany:
            self.fail("a least extra has no bound")
        self.assertTrue(is_extra_paper(GROW, readings, paper))


if __name__ == "__main__":
    unittest.main()
