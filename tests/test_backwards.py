"""Behind sets, their sums, and late courses."""

import unittest

from allreadings.allrows import all_rows, at_moment, row_labels
from allreadings.backwards import behind_one, behind_plain, behind_set, behind_sets, behind_sums, is_late_course
from allreadings.backwards import last_behind, late_course, read_set
from allreadings.clashes import follows
from allreadings.courses import is_allowed, set_at
from allreadings.errors import TooMany
from allreadings.meets import contains, meet
from allreadings.points import middle
from allreadings.rowsof import keeps
from allreadings.shapes import is_shape, system_of, whole_shape
from allreadings.stepping import stepped_back
from allreadings.worlds import readings_from, world_from
from tests.made import STRANGE, changed, made_moments, with_bools, with_kinds
from tests.test_courses import GROW, READS, keeps_by_words
from tests.test_forwards import FINE, STEPS


class Behind(unittest.TestCase):
    def test_read_set(self):
        world = (1, 2, [((-1,), 0)], [[]], [("a", (1,), (1, 1))])
        readings = [("r", "a", 0, (-5, 1)), ("t", "a", 1, (5, 1)), ("u", "a", 1, (4, 1))]
        # Start rows have no part in it.
        self.assertEqual(read_set(world=world, readings=readings, moment=0)[3], [[(-6, 1)], [(-4, 1)]])
        self.assertEqual(read_set(world, readings, 1)[3], [[(4, 1)], [(5, 1)]])
        self.assertEqual(last_behind(world=world, readings=readings), read_set(world, readings, 1))
        self.assertEqual(read_set(world, [], 0), whole_shape(1))
        self.assertEqual(behind_set(world, readings, 0), read_set(world, readings, 0))

    def test_bounds(self):
        world = (2, 5, [], [[]] * 4, [])
        self.assertEqual(behind_plain(world, [], 2), whole_shape(2))
        for moment in (0, 1):
            with self.assertRaises(TooMany) as caught:
                behind_plain(world, [], moment)
            self.assertEqual((caught.exception.what, caught.exception.limit), ("unknowns", 6))
        with self.assertRaises(TooMany) as caught:
            behind_one((2, 2, [], [STEPS], []), [], 0, FINE)
        self.assertEqual((caught.exception.what, caught.exception.limit), ("rows", 200))

    def test_made(self):
        plain = 0
        for made, world, readings in made_moments(81, 120):
            before = repr((world, readings))
            shapes = behind_sets(world=world, readings=readings)
            self.assertEqual(len(shapes), world[1])
            self.assertEqual(shapes[-1], last_behind(world, readings))
            for moment, shape in enumerate(shapes):
                self.assertTrue(is_shape(shape))
                self.assertEqual(behind_set(world=world, readings=readings, moment=moment), shape)
                late, late_readings = world_from(world, moment), readings_from(readings, moment)
                self.assertEqual(behind_set(late, late_readings, 0), shape)
                if moment < world[1] - 1:
                    one = behind_one(world=world, readings=readings, moment=moment, shape=shapes[moment + 1])
                    self.assertEqual(one, shape)
                    back = stepped_back(shapes[moment + 1], world[3][moment])
                    self.assertEqual(meet(read_set(world, readings, moment), back), shape)
                if world[0] * (world[1] - moment) <= 6:
                    plain += 1
                    self.assertEqual(behind_plain(world=world, readings=readings, moment=moment), shape)
                    self.assertEqual(set_at(late, late_readings, 0), shape)
            self.assertEqual(repr((world, readings)), before)
        self.assertGreater(plain, 200)


class Sums(unittest.TestCase):
    def test_made(self):
        empty = 0
        for made, world, readings in made_moments(82, 120):
            system, labels = all_rows(world, readings), row_labels(world, readings)
            moments = {reading[0]: reading[2] for reading in readings}
            for moment, shape in enumerate(behind_sets(world, readings)):
                sums = behind_sums(world=world, readings=readings, moment=moment)
                rows = system_of(shape)[1]
                self.assertEqual(len(sums), len(rows))
                empty += shape[0] == "empty"
                for (numbers, most), weights in zip(rows, sums):
                    self.assertTrue(follows(system, (at_moment(world, moment, numbers), most), weights))
                    for label, weight in zip(labels, weights):
                        in_front = label[0] == "start" or label[0] == "step" and label[1] < moment
                        in_front = in_front or label[0] in ("upper", "lower") and moments[label[1]] < moment
                        if in_front:
                            self.assertEqual(weight, (0, 1))
        self.assertGreater(empty, 10)


class LateCourses(unittest.TestCase):
    def test_made(self):
        found = 0
        for made, world, readings in made_moments(83, 100):
            before = repr((world, readings))
            for moment, shape in enumerate(behind_sets(world, readings)):
                stands = [made.point(world[0], 3)]
                if shape[0] == "shape":
                    stands += shape[3] + [middle(shape[3])]
                for stand in stands:
                    course = late_course(world=world, readings=readings, moment=moment, stand=stand)
                    self.assertIs(course is not None, contains(shape, stand))
                    if course is not None:
                        found += 1
                        self.assertEqual((course[0], len(course)), (stand, world[1] - moment))
                        self.assertIsNot(course[0], stand)
                        self.assertIs(is_late_course(world=world, readings=readings, moment=moment, stand=stand,
                                                     value=course), True)
                        late, late_readings = world_from(world, moment), readings_from(readings, moment)
                        self.assertTrue(keeps_by_words(late, late_readings, course))
                        other = [(number + 1, below) for number, below in stand]
                        self.assertIs(is_late_course(world, readings, moment, other, course), False)
            self.assertEqual(repr((world, readings)), before)
        self.assertGreater(found, 300)

    def test_start_rows_have_no_part(self):
        world = (1, 2, [((1,), -9)], [[((1, -1), 0)]], [])
        self.assertIs(is_late_course(world, [], 0, [(5, 1)], [[(5, 1)], [(6, 1)]]), True)
        self.assertIs(is_allowed(world, [], [[(5, 1)], [(6, 1)]]), False)

    def test_judge(self):
        stand, course = [(2, 1)], [[(2, 1)], [(4, 1)]]
        for value in STRANGE + [[[(2, 1)]], course + [[(4, 1)]], [[(2, 1)], [(5, 1)]], [[(3, 1)], [(4, 1)]], tuple(course),
                                [[(2, 1)], [(7, 2)]], [[(4, 2)], [(4, 1)]], [(2, 1), (4, 1)], [[(2, 1)], [4]]]:
            self.assertIs(is_late_course(GROW, READS, 0, stand, value), False, value)
        for other in [*with_bools(course), *with_kinds(course)]:
            self.assertIs(is_late_course(GROW, READS, 0, stand, other), False)
        for other in changed(course):
            self.assertIs(is_late_course(GROW, READS, 0, stand, other), False, other)
        self.assertIs(is_late_course(GROW, READS, 1, [(5, 1)], [[(5, 1)]]), True)
        self.assertIs(is_late_course(GROW, READS, 1, [(1, 1)], [[(True, 1)]]), False)
        self.assertIs(is_late_course(GROW, [], 1, [(1, 1)], [[(1, True)]]), False)
        self.assertIs(is_late_course(GROW, [], 1, [(1, 1)], [[(1, 1)]]), True)
        self.assertTrue(all(keeps(row, course[0] + course[1]) for row in GROW[3][0]))


if __name__ == "__main__":
    unittest.main()
