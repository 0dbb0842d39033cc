"""Before sets, ahead sets, courses to a moment, carried papers."""

import unittest

from allreadings.courses import clash_of_all, is_allowed, set_at
from allreadings.errors import EarlierMoment, MissingMoment, TooMany
from allreadings.forwards import ahead_set, before_set, before_set_plain, before_sets, carried_paper, carried_papers
from allreadings.forwards import course_to, next_set, seen_set
from allreadings.meets import contains, is_within, meet
from allreadings.points import middle
from allreadings.rowsof import keeps
from allreadings.setpapers import is_set_paper
from allreadings.shapes import hull, is_shape, shape_of, whole_shape
from allreadings.stepping import stepped
from allreadings.worlds import readings_cut, world_cut
from tests.made import made_moments
from tests.test_courses import GROW, MISSING, READS
from tests.test_stepping import ROUND

WIDE = (2, 3, [], [[((1, 0, -1, 0), 1)] * 8] * 2, [("a", (1, 0), (1, 1))])
STEPS = [((1, 0, -1, 0), 0), ((-1, 0, 1, 0), 0), ((0, 1, 0, -1), 0), ((0, -1, 0, 1), 0)] * 2
# Of a shape with 193 rows and a step with 8 the joint system has 201.
FINE = hull(2, [[(k, 1), (k * k, 1)] for k in range(-96, 97)], [])


class Errors(unittest.TestCase):
    def test_missing_moments(self):
        for value in MISSING + [2]:
            for call in [lambda: seen_set(GROW, READS, value), lambda: before_set_plain(GROW, READS, value),
                         lambda: next_set(GROW, READS, value, whole_shape(1)), lambda: before_set(GROW, READS, value),
                         lambda: ahead_set(GROW, READS, value, 1), lambda: ahead_set(GROW, READS, 0, value),
                         lambda: ahead_set(GROW, READS, 1, value), lambda: course_to(GROW, READS, value, [(1, 1)]),
                         lambda: carried_paper(GROW, READS, value), lambda: ahead_set(GROW, READS, value, None)]:
                with self.assertRaises(MissingMoment) as caught:
                    call()
                self.assertIs(caught.exception.moment, value)

    def test_first_moment_has_none_in_front(self):
        with self.assertRaises(MissingMoment) as caught:
            next_set(GROW, READS, 0, whole_shape(1))
        self.assertEqual(caught.exception.moment, 0)

    def test_earlier_moment(self):
        for moment, later in [(1, 0), (2, 0), (2, 1)]:
            with self.assertRaises(EarlierMoment) as caught:
                ahead_set(WIDE, [], moment, later)
            self.assertEqual((caught.exception.moment, caught.exception.later), (moment, later))

    def test_unknowns_of_the_plain_way(self):
        world = (2, 5, [], [[]] * 4, [])
        self.assertEqual(before_set_plain(world, [], 2), whole_shape(2))
        for moment in (3, 4):
            with self.assertRaises(TooMany) as caught:
                before_set_plain(world, [], moment)
            self.assertEqual((caught.exception.what, caught.exception.limit), ("unknowns", 6))
        world = (1, 8, [], [[]] * 7, [])
        self.assertEqual(before_set_plain(world, [], 5), whole_shape(1))
        with self.assertRaises(TooMany):
            before_set_plain(world, [], 6)

    def test_rows_of_joint_systems(self):
        world = (2, 2, [], [STEPS], [])
        self.assertEqual(len(FINE[2]), 193)
        with self.assertRaises(TooMany) as caught:
            next_set(world, [], 1, FINE)
        self.assertEqual((caught.exception.what, caught.exception.limit), ("rows", 200))
        self.assertEqual(next_set((2, 2, [], [STEPS[:4]], []), [], 1, ROUND), ROUND)


class Before(unittest.TestCase):
    def test_seen(self):
        world = (1, 2, [((-1,), 0)], [[((1, -1), 0)]], [("a", (1,), (1, 1))])
        readings = [("r", "a", 0, (5, 1)), ("s", "a", 0, (1, 2)), ("t", "a", 1, (5, 1)), ("u", "a", 1, (4, 1))]
        self.assertEqual(seen_set(world=world, readings=readings[1:2], moment=0)[3], [[(0, 1)], [(3, 2)]])
        self.assertEqual(seen_set(world, readings, 0), ("empty", 1))
        self.assertEqual(seen_set(world, readings, 1)[3], [[(4, 1)], [(5, 1)]])
        self.assertEqual(seen_set(world, [], 1), whole_shape(1))

    def test_made(self):
        plain = 0
        for made, world, readings in made_moments(71, 120):
            before = repr((world, readings))
            shapes = before_sets(world=world, readings=readings)
            self.assertEqual(len(shapes), world[1])
            for moment, shape in enumerate(shapes):
                self.assertTrue(is_shape(shape))
                self.assertEqual(before_set(world=world, readings=readings, moment=moment), shape)
                seen = seen_set(world, readings, moment)
                if moment == 0:
                    self.assertEqual(shape, seen)
                else:
                    self.assertEqual(next_set(world=world, readings=readings, moment=moment, shape=shapes[moment - 1]), shape)
                    self.assertEqual(meet(stepped(shapes[moment - 1], world[3][moment - 1]), seen), shape)
                if world[0] * (moment + 1) <= 6:
                    plain += 1
                    self.assertEqual(before_set_plain(world=world, readings=readings, moment=moment), shape)
                cut, cut_readings = world_cut(world, moment + 1), readings_cut(readings, moment + 1)
                self.assertEqual(before_sets(cut, cut_readings), shapes[:moment + 1])
                self.assertIs(shape[0] == "empty", clash_of_all(cut, cut_readings) is not None)
            if shapes[-1][0] == "shape":
                self.assertTrue(all(shape[0] == "shape" for shape in shapes))
            self.assertEqual(repr((world, readings)), before)
        self.assertGreater(plain, 200)

    def test_any_shape_goes_on(self):
        # next_set takes any shape, also ones that are no before set.
        world = (2, 2, [((1, 0), -5)], [STEPS], [("a", (1, 0), (1, 1))])
        for shape in [whole_shape(2), ROUND, ("empty", 2), hull(2, [[(1, 1), (1, 2)]], [])]:
            self.assertEqual(next_set(world, [], 1, shape), shape)
            read = shape_of((2, [((1, 0), 1), ((-1, 0), 1)]))
            self.assertEqual(next_set(world, [("r", "a", 1, (0, 1))], 1, shape), meet(shape, read))


class Ahead(unittest.TestCase):
    def test_made(self):
        for made, world, readings in made_moments(72, 60):
            shapes = before_sets(world, readings)
            for moment in range(world[1]):
                heard = readings_cut(readings, moment + 1)
                for later in range(moment, world[1]):
                    shape = ahead_set(world=world, readings=readings, moment=moment, later=later)
                    if later == moment:
                        self.assertEqual(shape, shapes[moment])
                    else:
                        nearer = ahead_set(world, readings, moment, later - 1)
                        self.assertEqual(shape, stepped(nearer, world[3][later - 1]))
                    # It is the before set of the readings up to the moment alone.
                    self.assertEqual(shape, before_set(world, heard, later))
                    self.assertTrue(is_within(shapes[later], shape))
                    if world[0] * (later + 1) <= 4:
                        self.assertEqual(shape, set_at(world_cut(world, later + 1), heard, later))


class Courses(unittest.TestCase):
    def test_made(self):
        found = 0
        for made, world, readings in made_moments(73, 100):
            before = repr((world, readings))
            for moment, shape in enumerate(before_sets(world, readings)):
                cut, cut_readings = world_cut(world, moment + 1), readings_cut(readings, moment + 1)
                stands = [made.point(world[0], 3)]
                if shape[0] == "shape":
                    stands += shape[3] + [middle(shape[3])]
                for stand in stands:
                    given = list(stand)
                    course = course_to(world=world, readings=readings, moment=moment, stand=given)
                    self.assertEqual(given, stand)
                    self.assertIs(course is not None, contains(shape, stand))
                    if course is not None:
                        found += 1
                        self.assertTrue(is_allowed(cut, cut_readings, course))
                        self.assertEqual(course[moment], stand)
                        self.assertFalse(any(part is given for part in course))
            self.assertEqual(repr((world, readings)), before)
        self.assertGreater(found, 300)

    def test_first_moment(self):
        self.assertEqual(course_to(GROW, READS, 0, [(9, 1)]), [[(9, 1)]])
        self.assertIsNone(course_to(GROW, READS, 0, [(-1, 9)]))
        self.assertEqual(len(course_to(GROW, READS, 1, [(5, 1)])), 2)


class Papers(unittest.TestCase):
    def test_made(self):
        clashes = directions = 0
        for made, world, readings in made_moments(74, 120):
            before = repr((world, readings))
            shapes = before_sets(world, readings)
            papers = carried_papers(world=world, readings=readings)
            self.assertEqual(len(papers), world[1])
            for moment, shape in enumerate(shapes):
                cut, cut_readings = world_cut(world, moment + 1), readings_cut(readings, moment + 1)
                for paper in (papers[moment], carried_paper(world=world, readings=readings, moment=moment)):
                    self.assertIs(is_set_paper(cut, cut_readings, moment, shape, paper), True)
                clashes += papers[moment][0] == "clash"
                directions += shape[0] == "shape" and shape[4] != []
            self.assertEqual(repr((world, readings)), before)
        self.assertGreater(min(clashes, directions), 40)

    def test_last_stand_of_a_course_keeps_the_step(self):
        course = course_to(GROW, READS, 1, [(4, 1)])
        self.assertTrue(all(keeps(row, course[0] + course[1]) for row in GROW[3][0]))


if __name__ == "__main__":
    unittest.main()
