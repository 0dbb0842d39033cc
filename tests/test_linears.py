"""Terms, linears and sayings, the courses known, and known moves."""

import unittest

from allreadings.allrows import all_rows, course_point
from allreadings.courses import is_allowed
from allreadings.linears import form_numbers, form_worth, is_known, is_known_move, is_linear, is_saying, is_supposed
from allreadings.linears import is_terms, keeps_linear, keeps_saying, known_course, known_rows, linear_row, linears_at
from allreadings.linears import peak_worth
from allreadings.reader import read_sheet
from allreadings.rowsof import broken_rows, is_system, keeps, worth_at
from allreadings.setpapers import is_move
from tests.made import BIG, STRANGE, exact, made_questions, with_bools, with_kinds
from tests.test_courses import allowed_courses, keeps_by_words

WORLD = (2, 3, [((-1, 0), 0)], [[((1, 0, -1, 0), 0)], []], [("a", (1, 1), (1, 1))])
TERMS = [(0, (1, 0)), (2, (-2, 3))]
LINEAR = (TERMS, 4)


def keeps_by_sums(linear, course):
    """Whether a course keeps a linear, with Python's own fractions."""
    terms, most = linear
    return sum(number * exact(a) for moment, numbers in terms for number, a in zip(numbers, course[moment])) <= most


class Judges(unittest.TestCase):
    def test_terms(self):
        for value in [[], TERMS, [(1, (0, BIG))], [(0, (1, 0)), (1, (1, 0)), (2, (0, -1))]]:
            self.assertIs(is_terms(world=WORLD, value=value), True)
            self.assertIs(is_linear(world=WORLD, value=(value, -7)), True)
            for other in [*with_bools(value), *with_kinds(value)]:
                self.assertIs(is_terms(WORLD, other), False, other)
                self.assertIs(is_linear(WORLD, (other, -7)), False, other)
        for value in STRANGE + [
                [(0, (0, 0))], [(3, (1, 0))], [(-1, (1, 0))], [(0, (1,))], [(0, (1, 0, 0))], [(0, (1, 0)), (0, (0, 1))],
                [(1, (1, 0)), (0, (1, 0))], [(0, [1, 0])], [[0, (1, 0)]], [(0, (1, 0), 1)], [(0,)], [(True, (1, 0))],
                [("0", (1, 0))], [(None, (1, 0))], [([0], (1, 0))], [(0, None)], [(0, ("1", 0))], tuple(TERMS)]:
            if value != []:
                self.assertIs(is_terms(WORLD, value), False, value)
                self.assertIs(is_linear(WORLD, (value, 1)), False, value)

    def test_linears(self):
        self.assertIs(is_linear(WORLD, ([], 0)), True)
        for other in [*with_bools(LINEAR), *with_kinds(LINEAR)]:
            self.assertIs(is_linear(WORLD, other), False, other)
        for value in STRANGE + [(TERMS,), (TERMS, 1, 1), (TERMS, None), (TERMS, (1, 1)), (TERMS, True), [TERMS, 1], (1, TERMS)]:
            self.assertIs(is_linear(WORLD, value), False, value)

    def test_sayings_and_supposed(self):
        eight = [([(0, (1, k))], k) for k in range(8)]
        for linears in [[], [LINEAR], eight, [LINEAR, LINEAR]]:
            for word in ("all", "any"):
                self.assertIs(is_saying(world=WORLD, value=(word, linears)), True)
                for other in [*with_bools((word, linears)), *with_kinds((word, linears))]:
                    self.assertIs(is_saying(WORLD, other), False, other)
            for supposed in (linears, tuple(linears)):
                self.assertIs(is_supposed(world=WORLD, value=supposed), len(linears) <= 4)
        for value in STRANGE + [("all", eight + [LINEAR]), ("any", eight + [LINEAR]), ("some", []), ("all",), ("all", [], []),
                                ("all", None), (["all"], []), (None, []), ("all", [None]), ("all", [(TERMS, True)])]:
            self.assertIs(is_saying(WORLD, value), False, value)
        for value in [[LINEAR] * 5, (LINEAR,) * 5, [None], (LINEAR, None), None, "", 0, True, LINEAR, [[LINEAR]]]:
            self.assertIs(is_supposed(WORLD, value), False, value)
        for value in STRANGE:
            self.assertIs(is_supposed(WORLD, value), value in ([], ()) and isinstance(value, (list, tuple)), value)


class Forms(unittest.TestCase):
    COURSE = [[(1, 2), (3, 1)], [(0, 1), (-1, 3)], [(5, 1), (2, 1)]]

    def test_numbers_and_rows(self):
        self.assertEqual(form_numbers(world=WORLD, terms=TERMS), (1, 0, 0, 0, -2, 3))
        self.assertEqual(form_numbers(WORLD, []), (0,) * 6)
        self.assertEqual(linear_row(world=WORLD, linear=LINEAR), ((1, 0, 0, 0, -2, 3), 4))
        # It is not made plain.
        self.assertEqual(linear_row(WORLD, ([(1, (2, 4))], 6)), ((0, 0, 2, 4, 0, 0), 6))
        self.assertEqual(linear_row(WORLD, ([], -5)), ((0,) * 6, -5))

    def test_linears_at(self):
        self.assertEqual(linears_at(numbers=(1, -1), most=4, first=1, last=2), [([(1, (1, -1))], 4), ([(2, (1, -1))], 4)])
        self.assertEqual(linears_at((0, 2), -1, 0, 0), [([(0, (0, 2))], -1)])

    def test_worths(self):
        self.assertEqual(form_worth(terms=TERMS, course=self.COURSE), (-7, 2))
        self.assertEqual(form_worth([], self.COURSE), (0, 1))
        self.assertEqual([peak_worth(numbers=numbers, course=self.COURSE) for numbers in [(1, 0), (0, 1), (-1, 1)]],
                         [(5, 1), (3, 1), (5, 2)])
        self.assertIs(keeps_linear(linear=(TERMS, -4), course=self.COURSE), False)
        self.assertIs(keeps_linear((TERMS, -3), self.COURSE), True)
        self.assertIs(keeps_linear(([(0, (2, 0))], 1), self.COURSE), True)
        self.assertEqual([keeps_linear(([], most), self.COURSE) for most in (-1, 0, 1)], [False, True, True])

    def test_sayings(self):
        good, bad = (TERMS, -3), (TERMS, -4)
        for linears, of_all, of_any in [([], True, False), ([good], True, True), ([bad], False, False),
                                        ([good, bad], False, True), ([bad, good], False, True), ([good, good], True, True)]:
            self.assertIs(keeps_saying(saying=("all", linears), course=self.COURSE), of_all)
            self.assertIs(keeps_saying(saying=("any", linears), course=self.COURSE), of_any)

    def test_questions_of_a_text_are_linears(self):
        names, world, _, linears = read_sheet(
            "unknowns x y\nmoments 3\nask x at 2 - 3 y at 0 <= 4\nask 1 >= 0 x at 1\nask y at 1 + x at 1 >= 2")
        self.assertEqual(linears, [([(0, (0, -3)), (2, (1, 0))], 4), ([], 1), ([(1, (-1, -1))], -2)])
        self.assertTrue(all(is_linear(world, linear) for linear in linears))


class Known(unittest.TestCase):
    def test_rows(self):
        readings = [("r", "a", 1, (3, 1))]
        many, rows = all_rows(WORLD, readings)
        self.assertEqual(known_rows(world=WORLD, readings=readings), (many, rows))
        twice = (TERMS, 8)
        for supposed in ([LINEAR, twice], (LINEAR, twice)):
            self.assertEqual(known_rows(WORLD, readings, supposed=supposed),
                             (many, rows + [linear_row(WORLD, LINEAR), linear_row(WORLD, twice)]))

    def test_supposed_by_name_alone(self):
        for call in [lambda: known_rows(WORLD, [], [LINEAR]), lambda: known_course(WORLD, [], [LINEAR]),
                     lambda: is_known(WORLD, [], [], [LINEAR]), lambda: is_known_move(WORLD, [], [], [LINEAR])]:
            with self.assertRaises(TypeError):
                call()

    def test_made(self):
        counts = {"none": 0, "known": 0, "unknown": 0, "move": 0}
        for made, world, readings, terms, supposed in made_questions(131, 120):
            before = repr((world, readings, supposed))
            self.assertTrue(is_supposed(world, supposed) and is_terms(world, terms))
            system = known_rows(world, readings, supposed=supposed)
            self.assertTrue(is_system(system))
            course = known_course(world, readings, supposed=supposed)
            counts["none"] += course is None
            courses = allowed_courses(made, world, readings, 5) + ([] if course is None else [course])
            for other in courses:
                expected = keeps_by_words(world, readings, other) and all(keeps_by_sums(one, other) for one in supposed)
                counts["known" if expected else "unknown"] += 1
                self.assertIs(is_known(world, readings, other, supposed=supposed), expected)
                self.assertIs(broken_rows(system, course_point(other)) == [], expected)
                self.assertIs(is_known(world, readings, other), is_allowed(world, readings, other))
                self.assertEqual(form_worth(terms, other), worth_at(form_numbers(world, terms), course_point(other)))
                for linear in supposed:
                    self.assertIs(keeps_linear(linear, other), keeps_by_sums(linear, other))
                    self.assertIs(keeps(linear_row(world, linear), course_point(other)), keeps_by_sums(linear, other))
                for word, function in (("all", all), ("any", any)):
                    self.assertIs(keeps_saying((word, list(supposed)), other),
                                  function(keeps_by_sums(linear, other) for linear in supposed))
            if course is not None:
                self.assertTrue(is_known(world, readings, course, supposed=supposed))
            for _ in range(3):
                move = [made.one_of([(0,) * world[0], made.numbers(world[0], 1)]) for _ in range(world[1])]
                fractions = [[(number, 1) for number in numbers] for numbers in move]
                expected = is_move(world, readings, move) and all(form_worth(one[0], fractions)[0] <= 0 for one in supposed)
                counts["move"] += expected
                self.assertIs(is_known_move(world, readings, move, supposed=supposed), expected)
            self.assertEqual(repr((world, readings, supposed)), before)
        self.assertGreater(min(counts.values()), 40, counts)

    def test_judges(self):
        world = (1, 2, [((-1,), 0)], [[((-1, 1), 2), ((1, -1), 0)]], [("a", (1,), (1, 1))])
        course, move = [[(1, 1)], [(2, 1)]], [(1,), (1,)]
        self.assertTrue(is_known(world, [], course) and is_known_move(world, [], move))
        for value in STRANGE + [course[:1], course + course, tuple(course), [[(1, 1)], [(4, 1)]], [[(1, 1)], [(2, 2)]]]:
            self.assertIs(is_known(world, [], value, supposed=[]), False, value)
        for value in STRANGE + [move[:1], move + move, tuple(move), [(1,), (2,)], [[1], [1]], [(1,), (True,)], [(1, 1), (1, 1)]]:
            self.assertIs(is_known_move(world, [], value, supposed=[]), False, value)
        for other in [*with_bools(course), *with_kinds(course)]:
            self.assertIs(is_known(world, [], other), False, other)
        for other in [*with_bools(move), *with_kinds(move)]:
            self.assertIs(is_known_move(world, [], other), False, other)


if __name__ == "__main__":
    unittest.main()
