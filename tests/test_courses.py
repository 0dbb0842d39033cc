"""All rows, courses, clashes, and the set the plain way."""

import unittest

from allreadings.allrows import all_rows, at_moment, course_point, point_course, reading_rows, row_labels
from allreadings.clashes import is_clash, is_tight
from allreadings.courses import blamed_labels, clash_of_all, course_of, fault_of, is_allowed, is_course, is_named_clash
from allreadings.courses import named_clash, set_at
from allreadings.errors import MissingMoment, TooMany
from allreadings.images import moved_shape
from allreadings.meets import contains, is_within
from allreadings.outlines import outline, outline_plain
from allreadings.points import mixed
from allreadings.rowsof import broken_rows, is_plain, is_system, keeps, plain_row, worth_at
from allreadings.shapes import is_shape, shape_of, whole_shape
from allreadings.unbounded import left_of
from allreadings.worlds import is_world, readings_moved, sensor_of, world_moved
from tests.made import BIG, STRANGE, MadeWorlds, changed, exact, told, with_bools, with_kinds

GROW = (1, 2, [((-1,), 0)], [[((1, -1), 0), ((-1, 1), 2)]], [("a", (1,), (1, 1))])
READS = [("r1", "a", 1, (5, 1))]
PLANE = (2, 2, [((2, 4), 6), ((0, 0), 5)], [[((0, 0, 0, 0), -7), ((3, 0, -3, 0), 1)]], [("a", (1, -2), (1, 2))])
MISSING = [-1, True, False, None, "0", [0], (0,), BIG]


def keeps_by_words(world, readings, course):
    """Whether the course is allowed, as point 8 tells it."""
    many, _, start, steps, _ = world
    if not all(keeps(row, course[0]) for row in start):
        return False
    for step, stand, after in zip(steps, course, course[1:]):
        if not all(keeps(row, stand + after) for row in step):
            return False
    for _, name, moment, worth in readings:
        _, numbers, slack = sensor_of(world, name)
        if abs(exact(worth_at(numbers, course[moment])) - exact(worth)) > exact(slack):
            return False
    return True


def allowed_courses(made, world, readings, count):
    """Some courses, allowed ones among them where there are any: found ones, mixes, and some with one number changed."""
    found = course_of(world, readings)
    courses = [point_course(world, made.point(world[0] * world[1], 3))]
    ends = []
    if found is not None:
        for k in range(world[1]):
            shape = outline(all_rows(world, readings), [world[0] * k])
            for corner in shape[3]:
                pinned = (world[0], world[1], world[2], world[3], world[4] + [("q", (1,) + (0,) * (world[0] - 1), (0, 1))])
                ends.append(course_of(pinned, readings + [("zz", "q", k, corner[0])]))
        courses += [found] + ends
    while len(courses) < count:
        course = [list(stand) for stand in made.one_of(courses)]
        if ends and made.number(0, 1):
            other = made.one_of(ends)
            share = made.one_of([(1, 2), (1, 3), (4, 5)])
            shares = [share, told(1 - exact(share))]
            courses.append([mixed([one, two], shares) for one, two in zip(course, other)])
        else:
            stand = made.one_of(course)
            at = made.number(0, world[0] - 1)
            stand[at] = told(exact(stand[at]) + exact(made.fraction(2)))
            courses.append(course)
    return courses[-count:]


class Rows(unittest.TestCase):
    def test_reading_rows(self):
        self.assertEqual(reading_rows(world=PLANE, reading=("r", "a", 0, (1, 3))), [((6, -12), 5), ((-6, 12), 1)])
        still = (1, 1, [], [], [("a", (-2,), (0, 1))])
        self.assertEqual(reading_rows(still, ("r", "a", 0, (4, 1))), [((-1,), 2), ((1,), -2)])

    def test_all_rows(self):
        readings = [("r2", "a", 1, (1, 1)), ("r1", "a", 0, (0, 1))]
        self.assertEqual(
            all_rows(world=PLANE, readings=readings),
            (4, [((1, 2, 0, 0), 3), ((0, 0, 0, 0), 0), ((0, 0, 0, 0), -1), ((3, 0, -3, 0), 1), ((0, 0, 2, -4), 3),
                 ((0, 0, -2, 4), -1), ((2, -4, 0, 0), 1), ((-2, 4, 0, 0), 1)]))
        self.assertEqual(
            row_labels(world=PLANE, readings=readings),
            [("start", 0), ("start", 1), ("step", 0, 0), ("step", 0, 1), ("upper", "r2"), ("lower", "r2"),
             ("upper", "r1"), ("lower", "r1")])
        self.assertEqual(all_rows((1, 1, [], [], []), []), (1, []))
        self.assertEqual(all_rows((2, 8, [], [[]] * 7, []), []), (16, []))
        self.assertEqual(row_labels((2, 8, [], [[]] * 7, []), []), [])

    def test_as_many_as_can_be(self):
        world = (2, 8, [((1, 0), 1)] * 8, [[((1, 0, 0, -1), 2)] * 8] * 7, [("a", (1, 1), (1, 1))])
        readings = [(f"r{k}", "a", k // 4, (1, 1)) for k in range(30)]
        system = all_rows(world, readings)
        self.assertTrue(is_world(world) and is_system(system))
        self.assertEqual((system[0], len(system[1]), len(row_labels(world, readings))), (16, 124, 124))

    def test_points_of_courses(self):
        course = [[(1, 2), (0, 1)], [(3, 1), (-1, 3)]]
        self.assertEqual(course_point(course=course), [(1, 2), (0, 1), (3, 1), (-1, 3)])
        self.assertEqual(point_course(world=PLANE, point=course_point(course)), course)
        self.assertEqual(point_course(GROW, [(1, 1), (2, 1)]), [[(1, 1)], [(2, 1)]])

    def test_at_moment(self):
        self.assertEqual(at_moment(world=PLANE, moment=0, numbers=(1, 2)), (1, 2, 0, 0))
        self.assertEqual(at_moment(PLANE, 1, (0, 2)), (0, 0, 0, 2))
        for value in MISSING + [2]:
            with self.assertRaises(MissingMoment) as caught:
                at_moment(PLANE, value, (1, 2))
            self.assertIs(caught.exception.moment, value)


class Courses(unittest.TestCase):
    def test_is_course(self):
        for world, course in [(GROW, [[(9, 1)], [(-1, 2)]]), (PLANE, [[(1, 2), (0, 1)], [(3, 1), (-1, 3)]]),
                              ((1, 1, [], [], []), [[(0, 1)]])]:
            self.assertIs(is_course(world=world, value=course), True)
            for other in [*with_bools(course), *with_kinds(course)]:
                self.assertIs(is_course(world, other), False, other)
                self.assertIs(is_allowed(world, [], other), False, other)
        for value in STRANGE + [[[(1, 1)]], [[(1, 1)]] * 3, [[(2, 2)], [(1, 1)]], [[(1, 1), (1, 1)]] * 2, [[1], [1]],
                                [(1, 1), (1, 1)], [[], []], [None, [(1, 1)]], "ab", [[(1, 1)], []], [[(1, -1)], [(1, 1)]]]:
            self.assertIs(is_course(GROW, value), False, value)
            self.assertIs(is_allowed(GROW, [], value), False, value)

    def test_edges_of_rows(self):
        for first, second, fault in [
                ((2, 1), (4, 1), None), ((6, 1), (6, 1), None), ((4, 1), (6, 1), None), ((-1, 9), (4, 1), ("start", 0)),
                ((5, 1), (49, 10), ("step", 0, 0)), ((2, 1), (41, 10), ("step", 0, 1)),
                ((6, 1), (61, 10), ("upper", "r1")), ((2, 1), (39, 10), ("lower", "r1")), ((-1, 1), (9, 1), ("start", 0)),
                ((9, 1), (0, 1), ("step", 0, 0))]:
            course = [[first], [second]]
            self.assertEqual(fault_of(world=GROW, readings=READS, course=course), fault)
            self.assertIs(is_allowed(world=GROW, readings=READS, value=course), fault is None)

    def test_false_idle_and_equal_rows(self):
        self.assertEqual(fault_of(PLANE, [], [[(0, 1), (0, 1)]] * 2), ("step", 0, 0))
        false_start = (1, 1, [((0,), 7), ((0,), -3), ((1,), 0)], [], [])
        self.assertEqual(fault_of(false_start, [], [[(5, 1)]]), ("start", 1))
        self.assertEqual((course_of(false_start, []), set_at(false_start, [], 0)), (None, ("empty", 1)))
        self.assertEqual(named_clash(false_start, []), [(("start", 1), (1, 1))])
        twice = (1, 1, [((2,), 5), ((2,), 5), ((-4,), -10)], [], [])
        self.assertEqual(set_at(twice, [], 0)[3], [[(5, 2)]])

    def test_course_and_clash(self):
        made = MadeWorlds(41)
        words = {True: 0, False: 0}
        for _ in range(300):
            world = made.world()
            readings = made.readings(world, made.number(0, 5))
            before = repr((world, readings))
            system = all_rows(world, readings)
            self.assertTrue(all(is_plain(row) for row in system[1]))
            self.assertEqual(len(system[1]), len(row_labels(world, readings)))
            course = course_of(world=world, readings=readings)
            weights = clash_of_all(world=world, readings=readings)
            clash = named_clash(world=world, readings=readings)
            words[course is None] += 1
            if course is None:
                self.assertTrue(is_tight(system, weights))
                self.assertTrue(is_named_clash(world, readings, clash))
                blamed = blamed_labels(clash=clash)
                kept = [reading for reading in readings if reading[0] in blamed]
                self.assertEqual(blamed, sorted(reading[0] for reading in kept))
                self.assertTrue(is_named_clash(world, kept, clash))
                self.assertIsNone(course_of(world, kept))
            else:
                self.assertTrue(is_allowed(world, readings, course))
                self.assertEqual((weights, clash), (None, None))
            for other in allowed_courses(made, world, readings, 5):
                allowed = keeps_by_words(world, readings, other)
                self.assertIs(is_allowed(world, readings, other), allowed)
                self.assertIs(broken_rows(system, course_point(other)) == [], allowed)
                fault = fault_of(world, readings, other)
                broken = broken_rows(system, course_point(other))
                self.assertEqual(fault, row_labels(world, readings)[broken[0]] if broken else None)
            self.assertEqual(repr((world, readings)), before)
        self.assertGreater(min(words.values()), 40)


class NamedClashes(unittest.TestCase):
    MORE = READS + [("r2", "a", 0, (-3, 1))]
    CLASH = [(("start", 0), (1, 1)), (("upper", "r2"), (1, 1))]

    def test_right_and_wrong(self):
        for clash in [self.CLASH, [(label, (7, 3)) for label, _ in self.CLASH],
                      [(("step", 0, 0), (1, 3)), (("step", 0, 1), (1, 3))] + [],
                      [(("start", 0), (2, 1)), (("step", 0, 0), (1, 5)), (("step", 0, 1), (1, 5)), (("upper", "r2"), (2, 1))]]:
            expected = clash[0][0][0] == "start"
            self.assertIs(is_named_clash(world=GROW, readings=self.MORE, value=clash), expected, clash)
        start, upper = self.CLASH
        for value in STRANGE + [
                [upper, start], [start, start, upper], [start, upper, upper], [start], [upper], (start, upper),
                [start, (("upper", "r2"), (1, 2))], [start, (("upper", "r2"), (0, 1))], [start, upper, (("lower", "r2"), (0, 1))],
                [start, (("upper", "r3"), (1, 1))], [start, (("lower", "r2"), (1, 1))], [start, (("upper", "r2"), 1)],
                [start, (["upper", "r2"], (1, 1))], [(("start", False), (1, 1)), upper], [(("start", 1), (1, 1)), upper],
                [(("start",), (1, 1)), upper], [((), (1, 1)), upper], [("start", (1, 1)), upper], [(start[0],), upper],
                [start, upper, None], [start, list(upper)], [(("start", 0), (2, 2)), (("upper", "r2"), (2, 2))],
                [(("start", 0), (-1, 1)), (("upper", "r2"), (-1, 1))], [(("start", [0]), (1, 1)), upper],
                [(("start", (False,)), (1, 1)), upper], [((["start"], 0), (1, 1)), upper]]:
            self.assertIs(is_named_clash(GROW, self.MORE, value), False, value)
        self.assertIs(is_named_clash(GROW, READS, self.CLASH), False)
        for other in [*with_bools(self.CLASH), *with_kinds(self.CLASH)]:
            self.assertIs(is_named_clash(GROW, self.MORE, other), False, other)

    def test_one_place_changed(self):
        labels = row_labels(GROW, self.MORE)
        for other in changed(self.CLASH):
            fits = isinstance(other, list) and all(
                isinstance(part, tuple) and len(part) == 2 and part[0] in labels and type(part[0][1]) is not bool
                and part[1] in [(1, 1), (2, 1), (1, 2)] and type(part[1][0]) is int and type(part[1][1]) is int
                for part in other)
            if fits:
                weights = [dict(other).get(label, (0, 1)) for label in labels]
                fits = is_clash(all_rows(GROW, self.MORE), weights)
            self.assertIs(is_named_clash(GROW, self.MORE, other), fits, other)

    def test_more_readings(self):
        more = [("q", "a", 1, (5, 1))] + self.MORE + [("z", "a", 0, (0, 1))]
        self.assertIs(is_named_clash(GROW, more, self.CLASH), True)

    def test_blamed_labels(self):
        one = (1, 1)
        self.assertEqual(blamed_labels([]), [])
        self.assertEqual(
            blamed_labels([(("start", 0), one), (("step", 1, 2), one), (("upper", "z"), one), (("lower", "z"), one),
                           (("lower", "b"), one), (("upper", "step"), one)]),
            ["b", "step", "z"])


class Sets(unittest.TestCase):
    def test_errors(self):
        for value in MISSING + [2]:
            with self.assertRaises(MissingMoment) as caught:
                set_at(GROW, READS, value)
            self.assertIs(caught.exception.moment, value)
        for many, moments in [(1, 7), (2, 4), (2, 8), (1, 8)]:
            world = (many, moments, [], [[]] * (moments - 1), [])
            with self.assertRaises(TooMany) as caught:
                set_at(world, [], moments - 1)
            self.assertEqual((caught.exception.what, caught.exception.limit), ("unknowns", 6))
            with self.assertRaises(MissingMoment):
                set_at(world, [], moments)
        for many, moments in [(1, 6), (2, 3)]:
            self.assertEqual(set_at((many, moments, [], [[]] * (moments - 1), []), [], 1), whole_shape(many))

    def test_made(self):
        made = MadeWorlds(42)
        empty = 0
        for _ in range(150):
            world = made.world(moments=made.number(1, 3))
            readings = made.readings(world, made.number(0, 5))
            before = repr((world, readings))
            system = all_rows(world, readings)
            shapes = [set_at(world=world, readings=readings, moment=moment) for moment in range(world[1])]
            course = course_of(world, readings)
            for moment, shape in enumerate(shapes):
                self.assertTrue(is_shape(shape))
                self.assertIs(shape[0] == "empty", course is None)
                places = list(range(moment * world[0], (moment + 1) * world[0]))
                self.assertEqual(outline_plain(system, places), shape)
                self.assertEqual(outline(system, places), shape)
                mixed_up = made.mixed_up(readings)
                self.assertEqual(set_at(world, mixed_up, moment), shape)
                if readings:
                    doubled = readings + [("again",) + made.one_of(readings)[1:]]
                    self.assertEqual(set_at(world, doubled, moment), shape)
                more = made.readings(world, 6)[:1]
                self.assertTrue(is_within(set_at(world, readings + [("more",) + more[0][1:]], moment), shape))
                offsets = [made.numbers(world[0], 5) for _ in range(world[1])]
                there = set_at(world_moved(world, offsets), readings_moved(world, readings, offsets), moment)
                self.assertEqual(there, moved_shape(shape, [(number, 1) for number in offsets[moment]]))
                for other in allowed_courses(made, world, readings, 3):
                    if is_allowed(world, readings, other):
                        self.assertTrue(contains(shape, other[moment]))
            empty += course is None
            self.assertEqual(repr((world, readings)), before)
        self.assertGreater(empty, 15)

    def test_no_bound_on_rows(self):
        # 21 rows below and 21 above the last unknown, none needless, make 441 pairs of unlike directions.
        rows = [((k, k * k, 1), 100) for k in range(21)] + [((k * k * k, 3 - 2 * k, -1), 100) for k in range(21)]
        with self.assertRaises(TooMany):
            outline_plain((3, rows), [0, 1])
        left = left_of((3, rows), [2])
        self.assertEqual(left[0], 2)
        self.assertEqual(shape_of(left), outline((3, rows), [0, 1]))
        self.assertEqual(shape_of(left_of((3, rows), [0, 2])), outline((3, rows), [1]))
        self.assertEqual(shape_of(left_of((3, rows), [2, 0])), outline((3, rows), [1]))

    def test_no_bound_where_the_plain_outline_has_one(self):
        bound = 0
        for seed in range(4):
            made = MadeWorlds(seed)
            size = made.number(2, 9)
            steps = [[(tuple(number or 1 for number in made.numbers(4, size)), made.number(30, 120)) for _ in range(8)]
                     for _ in range(2)]
            start = [(made.direction(2), made.number(20, 80)) for _ in range(8)]
            sensors = [(f"s{k}", made.direction(2), (made.number(20, 60), 1)) for k in range(6)]
            readings = [(f"r{k}", f"s{k % 6}", k // 6, (k % 3, 1)) for k in range(18)]
            world = (2, 3, start, steps, sensors)
            for moment in range(3):
                shape = set_at(world, readings, moment)
                places = [2 * moment, 2 * moment + 1]
                self.assertEqual(shape, outline(all_rows(world, readings), places))
                try:
                    self.assertEqual(shape, outline_plain(all_rows(world, readings), places))
                except TooMany:
                    bound += 1
        self.assertGreater(bound, 0)

    def test_many_rows(self):
        start = [((1, k), 9) for k in range(1, 5)] + [((-1, -k), 9) for k in range(1, 5)]
        step = [((k, 1, 1, k), 9) for k in range(1, 5)] + [((-k, -1, -1, k), 9) for k in range(1, 5)]
        sensors = [(f"s{k}", (1, k), (9, 1)) for k in range(5, 11)]
        world = (2, 3, start, [step, step], sensors)
        readings = [(f"r{k}", f"s{5 + k // 5}", k // 10, told(exact((k, 1)) / 7)) for k in range(30)]
        for moment in range(3):
            shape = set_at(world, readings, moment)
            self.assertEqual(shape, outline(all_rows(world, readings), [2 * moment, 2 * moment + 1]))
        self.assertEqual(shape_of((2, [plain_row(row) for row in start])), set_at((2, 1, start, [], []), [], 0))


if __name__ == "__main__":
    unittest.main()
