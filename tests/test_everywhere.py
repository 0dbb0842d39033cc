"""The sets at all moments by all ways, their sums, and courses through a stand."""

import unittest

from allreadings.allrows import all_rows, at_moment
from allreadings.backwards import behind_set, behind_sets
from allreadings.clashes import follows
from allreadings.courses import clash_of_all, course_of, is_allowed, set_at
from allreadings.everywhere import course_through, is_through, set_everywhere, set_sums, sets_everywhere, sets_onwards
from allreadings.everywhere import sets_returning, through
from allreadings.forwards import before_set, before_sets
from allreadings.meets import contains, meet
from allreadings.outlines import outline
from allreadings.points import middle
from allreadings.rowsof import keeps
from allreadings.shapes import is_shape, system_of
from tests.made import STRANGE, changed, exact, made_moments, told, with_bools, with_kinds
from tests.test_courses import GROW, READS


def stands_for(made, world, shape):
    """Stands inside, on the border and outside."""
    stands = [made.point(world[0], 3), made.point(world[0], 9)]
    if shape[0] == "shape":
        stands += shape[3][:2] + [middle(shape[3])]
        stands += [[told(exact(a) + exact((1, 7))) for a in shape[3][0]]]
    return stands


class Sets(unittest.TestCase):
    def test_made(self):
        empty = plain = 0
        for made, world, readings in made_moments(91, 200):
            before = repr((world, readings))
            shapes = sets_everywhere(world=world, readings=readings)
            self.assertEqual(len(shapes), world[1])
            self.assertEqual(sets_returning(world=world, readings=readings), shapes)
            self.assertEqual(sets_onwards(world=world, readings=readings), shapes)
            befores, behinds = before_sets(world, readings), behind_sets(world, readings)
            clashing = clash_of_all(world, readings) is not None
            empty += clashing
            for moment, shape in enumerate(shapes):
                self.assertTrue(is_shape(shape))
                self.assertEqual(set_everywhere(world=world, readings=readings, moment=moment), shape)
                self.assertEqual(meet(befores[moment], behinds[moment]), shape)
                self.assertEqual(before_set(world, readings, moment), befores[moment])
                self.assertEqual(behind_set(world, readings, moment), behinds[moment])
                self.assertIs(shape[0] == "empty", clashing)
                places = list(range(world[0] * moment, world[0] * moment + world[0]))
                self.assertEqual(outline(all_rows(world, readings), places), shape)
                if world[0] * world[1] <= 6:
                    plain += 1
                    self.assertEqual(set_at(world, readings, moment), shape)
            self.assertEqual(sets_everywhere(world, made.mixed_up(readings)), shapes)
            self.assertEqual(repr((world, readings)), before)
        self.assertGreater(empty, 30)
        self.assertGreater(plain, 300)


class Sums(unittest.TestCase):
    def test_made(self):
        for made, world, readings in made_moments(92, 100):
            system = all_rows(world, readings)
            for moment, shape in enumerate(sets_everywhere(world, readings)):
                sums = set_sums(world=world, readings=readings, moment=moment)
                rows = system_of(shape)[1]
                self.assertEqual(len(sums), len(rows))
                for (numbers, most), weights in zip(rows, sums):
                    self.assertTrue(follows(system, (at_moment(world, moment, numbers), most), weights))


class Through(unittest.TestCase):
    def test_made(self):
        words = {"course": 0, "bar": 0, "clash": 0}
        for made, world, readings in made_moments(93, 100):
            before = repr((world, readings))
            for moment, shape in enumerate(sets_everywhere(world, readings)):
                for stand in stands_for(made, world, shape):
                    told_one = through(world=world, readings=readings, moment=moment, stand=stand)
                    course = course_through(world=world, readings=readings, moment=moment, stand=stand)
                    self.assertIs(is_through(world=world, readings=readings, moment=moment, stand=stand,
                                             value=told_one), True)
                    inside = contains(shape, stand)
                    self.assertEqual(told_one[0], "course" if inside else "bar")
                    words["clash" if shape[0] == "empty" else told_one[0]] += 1
                    if inside:
                        self.assertTrue(is_allowed(world, readings, course) and course[moment] == stand)
                        self.assertTrue(is_allowed(world, readings, told_one[1]) and told_one[1][moment] == stand)
                        self.assertFalse(any(part is stand for part in course + told_one[1]))
                    else:
                        self.assertIsNone(course)
                        _, row, weights = told_one
                        self.assertFalse(keeps(row, stand))
                        placed = (at_moment(world, moment, row[0]), row[1])
                        self.assertTrue(follows(all_rows(world, readings), placed, weights))
                    others = [made.point(world[0], 3)] + shape[3] if shape[0] == "shape" else []
                    for other in others:
                        taken = is_through(world, readings, moment, other, told_one)
                        if told_one[0] == "course":
                            self.assertIs(taken, other == stand)
                        else:
                            self.assertIs(taken, not keeps(told_one[1], other))
            self.assertEqual(repr((world, readings)), before)
        self.assertGreater(min(words.values()), 60)

    def test_no_course_at_all(self):
        readings = READS + [("r2", "a", 0, (-3, 1))]
        self.assertIsNone(course_of(GROW, readings))
        for stand in [[(2, 1)], [(0, 1)]]:
            self.assertEqual(through(GROW, readings, 0, stand)[:2], ("bar", ((0,), -1)))

    def test_judge(self):
        stand, course = [(2, 1)], ("course", [[(2, 1)], [(4, 1)]])
        bar = ("bar", ((-2,), -4), [(0, 1), (0, 1), (2, 1), (0, 1), (2, 1)])
        low = [(1, 1)]
        self.assertIs(is_through(GROW, READS, 0, stand, course), True)
        self.assertIs(is_through(GROW, READS, 0, low, bar), True)
        self.assertIs(is_through(GROW, READS, 0, low, ("bar", ((-2,), -3), bar[2])), True)
        for value in STRANGE + [("course",), ("course", None), ("bar", None, None), ("bar", ((-2,), -4), []),
                                ("course", course[1], []), ("bar", bar[2]), ("course", tuple(course[1])), list(course),
                                ("bar", ((-2, 0), -4), bar[2]), ("bar", ((-2,), -2), bar[2]), ("bar", ((-2,), -5), bar[2]),
                                ("bar", ((-1,), -2), bar[2]), ("bar", bar[1], bar[2][:4]), ("bar", bar[1], bar[2] + [(0, 1)])]:
            self.assertIs(is_through(GROW, READS, 0, stand, value), False, value)
            self.assertIs(is_through(GROW, READS, 0, low, value), False, value)
        self.assertIs(is_through(GROW, READS, 0, low, course), False)
        self.assertIs(is_through(GROW, READS, 0, stand, bar), False)
        self.assertIs(is_through(GROW, READS, 1, stand, course), False)
        self.assertIs(is_through(GROW, READS, 1, [(4, 1)], course), True)
        for value, at in [(course, stand), (bar, low)]:
            for other in [*with_bools(value), *with_kinds(value)]:
                self.assertIs(is_through(GROW, READS, 0, at, other), False, other)
            for other in changed(value):
                if is_through(GROW, READS, 0, at, other):
                    self.assertTrue(self.is_right_bar(other, at), other)

    def is_right_bar(self, value, stand):
        """Whether a bar of the first moment of GROW shows what it says, reckoned apart."""
        word, (numbers, most), weights = value
        rows = all_rows(GROW, READS)[1]
        amounts = [exact(weight) for weight in weights]
        sides = [sum(a * row[0][k] for a, row in zip(amounts, rows)) for k in range(2)]
        total = sum(a * row[1] for a, row in zip(amounts, rows))
        worth = numbers[0] * exact(stand[0])
        return word == "bar" and min(amounts) >= 0 and sides == [numbers[0], 0] and total <= most < worth


if __name__ == "__main__":
    unittest.main()
