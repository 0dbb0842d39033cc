"""Widths, twin rows, worst widths with their papers and judge, plan lists and best picks."""

import unittest
from itertools import combinations

from allreadings.allrows import all_rows, at_moment
from allreadings.courses import course_of
from allreadings.errors import CannotBeRead, InvalidMany, NoCourse, TooFewPairs, TooMany
from allreadings.greatest import bounds_of
from allreadings.plans import best_pick, is_worst_paper, middle_worths, plan_list, twin_rows, width_behind, width_of, worst_width
from allreadings.rowsof import is_plain, keeps
from tests.apart import allows_apart, check_refusals, rows_apart, shows_row, worth_apart
from tests.made import STRANGE, doubled, exact, made_conflicts, told
from tests.test_choosing import NOT_MOST
from tests.test_courses import GROW, allowed_courses

READS = [("r1", "a", 1, (5, 1))]
CLASH = READS + [("r2", "a", 0, (-9, 1))]
FREE = (1, 2, [], [[]], [("a", (1,), (1, 1)), ("b", (2,), (0, 1))])


def worth_of_sensor(world, name, stand):
    numbers = [sensor[1] for sensor in world[4] if sensor[0] == name][0]
    return sum(number * exact(a) for number, a in zip(numbers, stand))


def slack_of(world, name):
    return [exact(sensor[2]) for sensor in world[4] if sensor[0] == name][0]


def twin_kept(world, readings, pick, course, other):
    """Whether two allowed courses' sums differ by at most twice the slack for each of the pick."""
    if not allows_apart(world, readings, course) or not allows_apart(world, readings, other):
        return False
    return all(abs(worth_of_sensor(world, name, course[moment]) - worth_of_sensor(world, name, other[moment]))
               <= 2 * slack_of(world, name) for name, moment in pick)


def is_right_worst(world, readings, pick, numbers, value):
    """Whether a worst paper shows what it says, reckoned apart."""
    many, rows = system = twin_rows(world, readings, pick)
    twin = list(numbers) + [-number for number in numbers]
    if value[0] == "endless":
        _, course, drift = value
        drifts = all(sum(a * b for a, b in zip(row[0], drift)) <= 0 for row in rows)
        return allows_apart(world, readings, course) and drifts and sum(a * b for a, b in zip(twin, drift)) > 0
    word, amount, course, other, weights = value
    if word != "width" or not twin_kept(world, readings, pick, course, other):
        return False
    if worth_apart(numbers, course) - worth_apart(numbers, other) != exact(amount):
        return False
    above, below = amount
    return shows_row(system, ([number * below for number in twin], above), weights)


def made_picks(seed, count, most=6):
    """Worlds of at most 8 unknowns with sensors, readings, a pick and a form."""
    for made, world, readings in made_conflicts(seed, count, 3):
        size = world[0] * world[1]
        if size <= most:
            pairs = [(sensor[0], moment) for moment in range(world[1]) for sensor in world[4]]
            pick = made.mixed_up(pairs)[:made.number(0, 4)]
            numbers = made.one_of([made.numbers(size, 2), at_moment(world, 0, made.direction(world[0])), (0,) * size])
            yield made, world, readings, pick, numbers


class Widths(unittest.TestCase):
    def test_made(self):
        counts = {"none": 0, "endless": 0, "width": 0}
        for made, world, readings, pick, numbers in made_picks(291, 200, 16):
            bounds = bounds_of(all_rows(world, readings), numbers)
            if bounds is None:
                counts["none"] += 1
                for call in [lambda: width_of(world=world, readings=readings, numbers=numbers),
                             lambda: width_behind(world, readings, pick, [(0, 1)] * len(pick), numbers)]:
                    with self.assertRaises(NoCourse):
                        call()
                continue
            width = width_of(world, readings, numbers)
            expected = None if None in bounds else told(exact(bounds[1]) - exact(bounds[0]))
            self.assertEqual(width, expected)
            self.assertEqual(width_behind(world, readings, [], [], numbers), width)
            counts["endless" if width is None else "width"] += 1
            self.assertEqual(width_of(world, doubled(made.mixed_up(readings)), numbers), width)
            for course in allowed_courses(made, world, readings, 2):
                if allows_apart(world, readings, course):
                    self.check_read(made, world, readings, pick, numbers, course, width)
        self.assertGreater(min(counts.values()), 20, counts)

    def check_read(self, made, world, readings, pick, numbers, course, width):
        """Worths that a course can have read, and worths a little beyond the slack of what it can have read."""
        worths = [told(worth_of_sensor(world, name, course[moment]) + slack_of(world, name) * made.number(-2, 2) / 2)
                  for name, moment in pick]
        added = [(f"p{k}", name, moment, worth) for k, ((name, moment), worth) in enumerate(zip(pick, worths))]
        behind = width_behind(world=world, readings=readings, pick=pick, worths=worths, numbers=numbers)
        self.assertEqual(behind, width_of(world, readings + added, numbers))
        if width is not None:
            self.assertTrue(0 <= exact(behind) <= exact(width))
        if pick:
            far = [told(exact(worth) + made.number(-30, 30)) for worth in worths]
            more = [reading[:3] + (worth,) for reading, worth in zip(added, far)]
            if course_of(world, readings + more) is None:
                with self.assertRaises(CannotBeRead):
                    width_behind(world, readings, pick, far, numbers)
            else:
                self.assertEqual(width_behind(world, readings, pick, far, numbers), width_of(world, readings + more, numbers))

    def test_edges(self):
        self.assertEqual([width_of(GROW, READS, numbers) for numbers in [(1, 0), (0, 1), (0, 0), (-2, 2)]],
                         [(4, 1), (2, 1), (0, 1), (4, 1)])
        self.assertEqual([width_of(GROW, [], numbers) for numbers in [(1, 0), (-1, 1), (0, 0)]], [None, (2, 1), (0, 1)])
        for call in [lambda: width_of(GROW, CLASH, (0, 0)), lambda: width_behind(GROW, CLASH, [("a", 0)], [(90, 1)], (1, 0)),
                     lambda: worst_width(GROW, CLASH, [], (1, 0)), lambda: plan_list(GROW, CLASH, (1, 0)),
                     lambda: best_pick(GROW, CLASH, (1, 0), 0)]:
            with self.assertRaises(NoCourse):
                call()
        with self.assertRaises(CannotBeRead):
            width_behind(GROW, READS, [("a", 0)], [(8, 1)], (1, 0))
        self.assertEqual([width_behind(GROW, READS, [("a", 0)], [worth], (1, 0)) for worth in [(7, 1), (6, 1), (4, 1), (1, 1)]],
                         [(0, 1), (1, 1), (2, 1), (0, 1)])
        # As many readings as there can be, and a pick of four.
        many = [(f"r{k}", "a", k % 2, (5, 1)) for k in range(30)]
        self.assertEqual(width_behind(FREE, many, [("a", 0), ("a", 1), ("b", 0), ("b", 1)], [(5, 1), (5, 1), (9, 1), (11, 1)], (1, -1)),
                         (0, 1))


class Twins(unittest.TestCase):
    def test_rows(self):
        for made, world, readings, pick, _ in made_picks(292, 80, 16):
            many, rows = twin_rows(world=world, readings=readings, pick=pick)
            size, own = world[0] * world[1], all_rows(world, readings)[1]
            self.assertEqual((many, len(rows)), (2 * size, 2 * len(own) + 2 * len(pick)))
            self.assertEqual(rows[:len(own)], [(numbers + (0,) * size, most) for numbers, most in own])
            self.assertEqual(rows[len(own):2 * len(own)], [((0,) * size + numbers, most) for numbers, most in own])
            self.assertTrue(all(is_plain(row) for row in rows))
            course, other = [[made.point(world[0], 3) for _ in range(world[1])] for _ in range(2)]
            point = [a for stand in course + other for a in stand]
            for k, (name, moment) in enumerate(pick):
                gap = worth_of_sensor(world, name, course[moment]) - worth_of_sensor(world, name, other[moment])
                upper, lower = rows[2 * len(own) + 2 * k:2 * len(own) + 2 * k + 2]
                self.assertIs(keeps(upper, point), gap <= 2 * slack_of(world, name))
                self.assertIs(keeps(lower, point), -gap <= 2 * slack_of(world, name))
            self.assertEqual(middle_worths(world=world, pick=pick, course=course, other=other),
                             [told((worth_of_sensor(world, name, course[moment]) + worth_of_sensor(world, name, other[moment])) / 2)
                              for name, moment in pick])

    def test_more_than_a_system_has(self):
        readings = [(f"r{k}", "a", 1, (5, 1)) for k in range(30)]
        steps = [[((0, 0, 0, 0), 1)] * 8] * 7
        world = (2, 8, [((1, 1), 9)] * 8, steps, [("a", (1, 1), (1, 2))])
        many, rows = twin_rows(world, readings, [("a", k) for k in range(4)])
        self.assertEqual((many, len(rows)), (32, 2 * 124 + 8))
        self.assertEqual(rows[248:250], [((1, 1) + (0,) * 14 + (-1, -1) + (0,) * 14, 1), ((-1, -1) + (0,) * 14 + (1, 1) + (0,) * 14, 1)])

    def test_middle_worths_allow_both(self):
        """Two allowed courses stay allowed behind some worths exactly if their sums differ by at most twice the slack."""
        counts = [0, 0]
        for made, world, readings, pick, _ in made_picks(293, 150):
            courses = [course for course in allowed_courses(made, world, readings, 4) if allows_apart(world, readings, course)]
            for course, other in combinations(courses, 2):
                middle = middle_worths(world, pick, course, other)
                added = readings + [(f"p{k}", name, moment, worth) for k, ((name, moment), worth) in enumerate(zip(pick, middle))]
                both = allows_apart(world, added, course) and allows_apart(world, added, other)
                counts[both] += 1
                self.assertIs(twin_kept(world, readings, pick, course, other), both)
        self.assertGreater(min(counts), 20, counts)


class Worst(unittest.TestCase):
    def test_made(self):
        counts = {"none": 0, "endless": 0, "width": 0, "nought": 0, "less": 0}
        for made, world, readings, pick, numbers in made_picks(294, 250):
            before = repr((world, readings, pick, numbers))
            if course_of(world, readings) is None:
                counts["none"] += 1
                with self.assertRaises(NoCourse):
                    worst_width(world, readings, pick, numbers)
                continue
            paper = worst_width(world=world, readings=readings, pick=pick, numbers=numbers)
            self.assertTrue(is_right_worst(world, readings, pick, numbers, paper))
            self.assertIs(is_worst_paper(world, readings, pick, numbers, paper), True)
            worst = paper[1] if paper[0] == "width" else None
            width = width_of(world, readings, numbers)
            if width is not None:
                self.assertIsNotNone(worst)
                self.assertLessEqual(exact(worst), exact(width))
                counts["less"] += worst != width
            counts["nought" if worst == (0, 1) else paper[0]] += 1
            if paper[0] == "width":
                # It is reached by the middle worths of both courses.
                middle = middle_worths(world, pick, paper[2], paper[3])
                self.assertEqual(width_behind(world, readings, pick, middle, numbers), worst)
            for course in allowed_courses(made, world, readings, 3):
                if allows_apart(world, readings, course):
                    worths = [told(worth_of_sensor(world, name, course[moment])) for name, moment in pick]
                    behind = width_behind(world, readings, pick, worths, numbers)
                    self.assertTrue(worst is None or exact(behind) <= exact(worst))
            less = worst_width(world, readings, pick[1:], numbers)
            self.assertTrue(less[0] == "endless" or (worst is not None and exact(less[1]) >= exact(worst)))
            self.assertEqual(repr((world, readings, pick, numbers)), before)
        self.assertGreater(min(counts.values()), 8, counts)

    def test_edges(self):
        self.assertEqual(worst_width(GROW, READS, [], (1, 0))[:2], ("width", (4, 1)))
        self.assertEqual(worst_width(GROW, READS, [("a", 0)], (1, 0))[:2], ("width", (2, 1)))
        self.assertEqual(worst_width(GROW, READS, [("a", 0)], (0, 0))[:2], ("width", (0, 1)))
        self.assertEqual(worst_width(GROW, [], [("a", 0)], (0, 1))[:2], ("width", (4, 1)))
        self.assertEqual(worst_width(FREE, [], [("a", 0)], (0, 1))[0], "endless")
        four = [("a", 0), ("b", 0), ("a", 1), ("b", 1)]
        self.assertEqual(worst_width(FREE, [], four, (1, -1))[:2], ("width", (0, 1)))
        self.assertEqual(worst_width(FREE, [], four[::2], (1, -1))[:2], ("width", (4, 1)))

    def test_eight_unknowns_and_nine(self):
        for many, moments in [(1, 8), (2, 4), (2, 5), (2, 8)]:
            sensors = [("a", (1,) + (0,) * (many - 1), (1, 1))]
            world = (many, moments, [], [[]] * (moments - 1), sensors)
            numbers = (1,) + (0,) * (many * moments - 1)
            clash = [("r", "a", 0, (0, 1)), ("s", "a", 0, (9, 1))]
            for call, expected in [(lambda told: worst_width(world, told, [("a", 0)], numbers)[1], (2, 1)),
                                   (lambda told: plan_list(world, told, numbers)[0], ("a", 0, (2, 1))),
                                   (lambda told: best_pick(world, told, numbers, 1), ([("a", 0)], (2, 1)))]:
                with self.assertRaises(NoCourse):
                    call(clash)
                if many * moments <= 8:
                    self.assertEqual(call([]), expected)
                else:
                    with self.assertRaises(TooMany) as caught:
                        call([])
                    self.assertEqual((caught.exception.what, caught.exception.limit), ("unknowns", 8))
            self.assertIs(is_worst_paper(world, [], [("a", 0)], numbers, ("endless", [], ())), False)
            self.assertIsNone(width_of(world, [], numbers))


class Judge(unittest.TestCase):
    CASES = [(GROW, READS, [("a", 0)], (1, 0)), (GROW, READS, [], (-1, 1)), (GROW, [], [("a", 1)], (1, 0)), (FREE, [], [("b", 0)], (1, 1)),
             (GROW, READS, [("a", 0), ("a", 1)], (0, 0))]

    def test_changed(self):
        for world, readings, pick, numbers in self.CASES:
            check_refusals(
                self, lambda value: is_worst_paper(world, readings, pick, numbers, value), worst_width(world, readings, pick, numbers),
                lambda value: is_right_worst(world, readings, pick, numbers, value),
                [("width", None, None, None, None), ("width", (0, 1), [], [], []), ("endless", None, None), ("endless", [], ()),
                 ("width",), ("endless",), (None, None, None)])

    def test_wrong_parts(self):
        word, amount, course, other, weights = worst_width(GROW, READS, [("a", 0)], (1, 0))
        for value in [(word, amount, other, course, weights), (word, (1, 1), course, other, weights), (word, amount, course, course, weights),
                      (word, (4, 1), [[(6, 1)], [(6, 1)]], [[(2, 1)], [(4, 1)]], weights), (word, amount, course, other, weights[:-1]),
                      (word, amount, course, other, [(0, 1)] * len(weights)), ("endless", course, (1, 1, 1, 1)), ("endless", course, (0,) * 4)]:
            self.assertIs(is_worst_paper(GROW, READS, [("a", 0)], (1, 0), value), False, value)
        self.assertIs(is_worst_paper(GROW, READS, [], (1, 0), (word, amount, course, other, weights[:-2])), False)
        wide = [[(6, 1)], [(6, 1)]], [[(4, 1)], [(4, 1)]]
        self.assertIs(is_worst_paper(GROW, READS, [("a", 0)], (1, 0), (word, amount) + wide + (weights,)), True)
        for value in STRANGE:
            for told_value in [(word, value, course, other, weights), (word, amount, value, other, weights),
                               (word, amount, course, value, weights), (word, amount, course, other, value), ("endless", course, value)]:
                self.assertIs(is_worst_paper(GROW, READS, [("a", 0)], (1, 0), told_value), False)
        # Endless: any allowed course, and any drift along which the form of the first rises above that of the other.
        for drift, expected in [((0, 0, 0, -1), True), ((0, 0, 0, 1), False), ((0, 1, 0, 0), True), ((0, 1, 0, 1), False), ((0, 0, 0, 0), False),
                                ((1, 1, 0, 0), False), ((0, 5, 0, -5), True)]:
            self.assertIs(is_worst_paper(FREE, [], [("a", 0)], (0, 1), ("endless", [[(0, 1)], [(9, 1)]], drift)), expected, drift)


class Picks(unittest.TestCase):
    def test_made(self):
        ties = 0
        for made, world, readings, _, numbers in made_picks(295, 60):
            if course_of(world, readings) is None:
                continue
            pairs = [(sensor[0], moment) for moment in range(world[1]) for sensor in world[4]]

            def worst(pick):
                paper = worst_width(world, readings, pick, numbers)
                return paper[1] if paper[0] == "width" else None
            self.assertEqual(plan_list(world=world, readings=readings, numbers=numbers),
                             [(name, moment, worst([(name, moment)])) for name, moment in pairs])
            last = None
            for many in range(4):
                lists = [list(pick) for pick in combinations(pairs, many)]
                if not lists:
                    with self.assertRaises(TooFewPairs) as caught:
                        best_pick(world, readings, numbers, many)
                    self.assertEqual(caught.exception.many, many)
                elif len(lists) > 60:
                    with self.assertRaises(TooMany) as caught:
                        best_pick(world, readings, numbers, many)
                    self.assertEqual((caught.exception.what, caught.exception.limit), ("picks", 60))
                else:
                    worsts = [worst(pick) for pick in lists]
                    ends = [exact(one) for one in worsts if one is not None]
                    best = told(min(ends)) if ends else None
                    ties += worsts.count(best) > 1
                    self.assertEqual(best_pick(world=world, readings=readings, numbers=numbers, many=many),
                                     (lists[worsts.index(best)], best))
                    if last is not None and many > 0:
                        self.assertTrue(best is not None and exact(best) <= exact(last))
                    last = best
        self.assertGreater(ties, 30)

    def test_edges(self):
        self.assertEqual(plan_list(GROW, READS, (1, 0)), [("a", 0, (2, 1)), ("a", 1, (4, 1))])
        self.assertEqual([best_pick(GROW, READS, (1, 0), many) for many in range(3)],
                         [([], (4, 1)), ([("a", 0)], (2, 1)), ([("a", 0), ("a", 1)], (2, 1))])
        self.assertEqual(plan_list((1, 1, [], [], []), [], (1,)), [])
        self.assertEqual(best_pick((1, 1, [], [], []), [], (1,), 0), ([], None))
        # None is above all; of several the first by the places of the pairs: by moments, then by sensors.
        self.assertEqual(best_pick(FREE, [], (0, 1), 1), ([("b", 1)], (0, 1)))
        self.assertEqual(best_pick(FREE, [], (0, 0), 2), ([("a", 0), ("b", 0)], (0, 1)))
        twice = (1, 2, [], [[]], [("z", (1,), (1, 1)), ("a", (1,), (1, 1))])
        self.assertEqual(best_pick(twice, [], (1, 1), 1), ([("z", 0)], None))
        self.assertEqual(best_pick(twice, [], (1, 1), 2), ([("z", 0), ("z", 1)], (4, 1)))

    def test_how_many_lists(self):
        # 11 pairs make 55 lists of two, 12 make 66; 8 make 56 lists of three.
        def world(sensors, moments):
            return (1, moments, [], [[]] * (moments - 1), [(name, (1,), (1, 1)) for name in "abcdef"[:sensors]])
        self.assertEqual(best_pick(world(5, 2), [], (1, 0), 2)[0], [("a", 0), ("b", 0)])
        self.assertEqual(best_pick(world(4, 2), [], (1, 0), 3), ([("a", 0), ("b", 0), ("c", 0)], (2, 1)))
        for sensors, moments, many in [(6, 2, 2), (3, 3, 3), (6, 8, 2)]:
            numbers = (1,) + (0,) * (moments - 1)
            with self.assertRaises(TooMany) as caught:
                best_pick(world(sensors, moments), [], numbers, many)
            self.assertEqual((caught.exception.what, caught.exception.limit), ("picks", 60))
            with self.assertRaises(NoCourse):
                best_pick(world(sensors, moments), [("r", "a", 0, (0, 1)), ("s", "a", 0, (9, 1))], numbers, many)
        self.assertEqual(best_pick(world(6, 8), [], (1,) + (0,) * 7, 1), ([("a", 0)], (2, 1)))
        wide = (2, 5, [], [[]] * 4, [("a", (1, 0), (1, 1)), ("b", (0, 1), (1, 1)), ("c", (1, 1), (1, 1))])
        with self.assertRaises(TooMany) as caught:
            best_pick(wide, [], (1,) + (0,) * 9, 2)
        self.assertEqual(caught.exception.what, "unknowns")

    def test_sequence_of_errors(self):
        for many in NOT_MOST + [4]:
            with self.assertRaises(InvalidMany) as caught:
                best_pick(GROW, CLASH, (1, 0), many)
            self.assertIs(caught.exception.value, many)
        with self.assertRaises(TooFewPairs) as caught:
            best_pick(GROW, CLASH, (1, 0), 3)
        self.assertEqual(caught.exception.many, 3)
        wide = (2, 8, [((0, 0), -1)], [[]] * 7, [])
        with self.assertRaises(TooFewPairs):
            best_pick(wide, [], (0,) * 16, 1)
        with self.assertRaises(NoCourse):
            best_pick(wide, [], (0,) * 16, 0)


class Rows(unittest.TestCase):
    def test_twin_rows_of_words(self):
        """The twin rows hold exactly for two allowed courses that differ by so little, told by rows reckoned apart."""
        for made, world, readings, pick, _ in made_picks(296, 40):
            many, rows = twin_rows(world, readings, pick)
            apart = rows_apart(world, readings)
            for _ in range(3):
                course, other = [[made.point(world[0], 2) for _ in range(world[1])] for _ in range(2)]
                point = [a for stand in course + other for a in stand]
                self.assertIs(all(keeps(row, point) for row in rows), twin_kept(world, readings, pick, course, other))
                self.assertIs(all(keeps(row, point) for row in rows[:len(apart)]), allows_apart(world, readings, course))


if __name__ == "__main__":
    unittest.main()
