"""Outlines by both ways, outline papers and their judge."""

import unittest

from allreadings.clashes import is_clash
from allreadings.errors import TooMany
from allreadings.fractions import plus, whole
from allreadings.outlines import is_outline_paper, outline, outline_paper, outline_plain
from allreadings.pairing import taken_out
from allreadings.points import shifted
from allreadings.rowsof import broken_rows, is_system
from allreadings.shapes import is_shape, shape_of, whole_shape
from allreadings.solving import has_point, point_of
from tests.made import BIG, STRANGE, Made, changed, exact, told, with_bools, with_kinds
from tests.test_shapes import KINDS


def made_cases(seed, count):
    """Systems with one or two places."""
    made = Made(seed)
    for _ in range(count):
        many = made.number(1, 5)
        places = made.mixed_up(range(many))[:made.number(1, 2)]
        yield made, made.system(many, made.number(0, 9), made.one_of([1, 2, 4])), sorted(places)


def lifted(system, many, ahead):
    """The system with further unknowns ahead, of which the first ones are held by its own."""
    size = system[0]
    rows = [((0,) * ahead + numbers, most) for numbers, most in system[1]]
    for k in range(min(ahead, size)):
        link = [0] * (ahead + size)
        link[k], link[ahead + k] = 1, -1
        rows += [(tuple(link), 0), (tuple(-number for number in link), 0)]
    return (ahead + size, rows)


class Outlines(unittest.TestCase):
    def check(self, system, places, shape):
        before = repr((system, places))
        self.assertEqual(outline(system=system, places=places), shape)
        self.assertEqual(outline_plain(system=system, places=places), shape)
        paper = outline_paper(system=system, places=places)
        self.assertIs(is_outline_paper(value=paper, system=system, places=places, shape=shape), True)
        self.assertEqual(repr((system, places)), before)
        return paper

    def test_each_kind_of_shape(self):
        for word, (system, shape) in KINDS.items():
            many = system[0]
            self.check(system, list(range(many)), shape)
            for ahead in (1, 2, 3):
                told_system = lifted(system, many, ahead)
                self.check(told_system, list(range(ahead, ahead + many)), shape)
                if ahead >= many:
                    self.check(told_system, list(range(many)), shape)

    def test_edges(self):
        for many in (1, 2):
            self.check((many, []), list(range(many)), whole_shape(many))
            self.check((20, []), list(range(20 - many, 20)), whole_shape(many))
            self.check((many, [((0,) * many, -3)]), list(range(many)), ("empty", many))
        self.check((3, [((1, 1, 1), -1), ((-1, -1, -1), 0)]), [0, 2], ("empty", 2))
        self.check((2, [((1, 0), 0), ((-1, 0), -1)]), [1], ("empty", 1))
        # A point, a stretch, a half line, a line, an area and the plane of a system over more unknowns.
        held = [((0, 0, 1), 1), ((0, 0, -1), 1)]
        self.check((3, [((1, 0, 0), 2), ((-1, 0, 0), -2), ((0, 1, 1), 0), ((0, -1, -1), 0)] + held, ), [0, 1], shape_of(
            (2, [((1, 0), 2), ((-1, 0), -2), ((0, 1), 1), ((0, -1), 1)])))
        self.check((3, [((1, 0, -1), 0), ((-1, 0, 1), 0), ((0, 1, -1), 0), ((0, -1, 1), 0)]), [0, 1], shape_of(
            (2, [((1, -1), 0), ((-1, 1), 0)])))
        self.check((3, [((1, 0, -1), 0), ((-1, 0, 1), 0), ((0, 1, -1), 0), ((0, -1, 1), 0), ((0, 0, 1), 5)]), [0, 1],
                   shape_of((2, [((1, -1), 0), ((-1, 1), 0), ((1, 0), 5)])))
        self.check((3, [((1, 1, -1), 0)]), [0, 1], whole_shape(2))
        self.check((3, [((1, 1, -1), 0), ((0, 0, 1), 1)]), [0, 1], shape_of((2, [((1, 1), 1)])))

    def test_great_numbers(self):
        system = (3, [((BIG, 1, 0), BIG), ((-BIG, 0, 1), 1), ((1, -1, -1), BIG - 1), ((0, 0, -1), 5), ((0, -1, 0), 7)])
        shape = outline(system, [0, 2])
        self.check(system, [0, 2], shape)
        self.assertTrue(is_shape(shape))

    def test_made(self):
        empty = 0
        for made, system, places in made_cases(51, 500):
            shape = outline_plain(system, places)
            self.assertTrue(is_shape(shape))
            self.assertEqual(shape[1], len(places))
            self.check(system, places, shape)
            self.assertIs(shape[0] == "empty", not has_point(system))
            empty += shape[0] == "empty"
            mixed_up = (system[0], made.mixed_up(system[1]))
            self.assertEqual(outline(mixed_up, places), shape)
            point = made.point(system[0], 3)
            point = point_of(system) if made.number(0, 1) else point
            if point is not None and broken_rows(system, point) == []:
                self.assertEqual(broken_rows((len(places), shape[2]), [point[place] for place in places]), [])
        self.assertGreater(empty, 50)

    def test_many_rows(self):
        # 20 rows above and 20 below the last unknown make 400 rows of unlike directions.
        rows = [((k, k * k, 1), 100) for k in range(20)] + [((50 * j + 2, 7 - j ** 3, -1), 100) for j in range(20)]
        self.assertEqual(len(taken_out((3, rows), 2)[0][1]), 400)
        self.check((3, rows), [0, 1], outline((3, rows), [0, 1]))
        more = [((1, 10 ** 6, 0), 10 ** 9)]
        self.check((3, rows + [((100, 50, 0), 10 ** 9)]), [1, 2], outline((3, rows), [1, 2]))
        for system in [(3, rows + more), (3, rows + [((-1, 5, 1), 100)]), (3, rows + [((-1, 5, -1), 100)])]:
            self.assertTrue(is_system(system))
            with self.assertRaises(TooMany) as caught:
                outline_plain(system, [0, 1])
            self.assertEqual((caught.exception.what, caught.exception.limit), ("rows", 400))
            shape = outline(system, [0, 1])
            self.assertTrue(is_shape(shape))
            self.assertTrue(is_outline_paper(outline_paper(system, [0, 1]), system, [0, 1], shape))


class Judge(unittest.TestCase):
    CASES = [
        ((2, [((-1, 0), 0), ((1, 0), 2), ((-1, 1), 1), ((1, -1), 0)]), [1]),
        ((3, [((1, 1, 0), 2), ((-1, 0, 1), 0), ((0, 0, -1), 1), ((0, -1, 0), 3)]), [0, 2]),
        ((3, [((1, 1, 0), 2), ((-1, 0, 1), 0)]), [0, 2]), ((2, [((1, 1), 0), ((-1, -1), 0)]), [0]),
        ((2, [((1, 1), 0), ((-1, -1), -1), ((0, 1), 4)]), [1])]

    def test_any_value(self):
        for system, places in self.CASES:
            shape = outline(system, places)
            for value in STRANGE + [("set",), ("set", [], []), ("set", None, None, None), ("set", [], [], [], [])]:
                self.assertIs(is_outline_paper(value, system, places, shape), False, value)

    def test_one_place_changed(self):
        for system, places in self.CASES:
            shape, paper = outline(system, places), outline_paper(system, places)
            for other in [*with_bools(paper), *with_kinds(paper)]:
                self.assertIs(is_outline_paper(other, system, places, shape), False, other)
            for other in changed(paper):
                if is_outline_paper(other, system, places, shape):
                    self.assertTrue(self.is_right(other, system, places, shape), other)

    def is_right(self, value, system, places, shape):
        """Whether a value that the judge takes shows what it says, as point 73 tells it."""
        if shape[0] == "empty":
            return is_clash(system, value[1])
        _, sums, points, drifts = value
        for (numbers, most), weights in zip(shape[2], sums):
            row = [0] * system[0]
            for place, number in zip(places, numbers):
                row[place] = number
            amounts = [exact(weight) for weight in weights]
            sides = [sum(a * r[0][k] for a, r in zip(amounts, system[1])) for k in range(system[0])]
            if min(amounts, default=0) < 0 or sides != row or sum(a * r[1] for a, r in zip(amounts, system[1])) > most:
                return False
        for corner, point in zip(shape[3], points):
            if broken_rows(system, point) or [point[place] for place in places] != corner:
                return False
        for direction, drift in zip(shape[4], drifts):
            part = [drift[place] for place in places]
            times = [a // b for a, b in zip(part, direction) if b]
            if times[0] < 1 or part != [times[0] * b for b in direction]:
                return False
            if any(sum(a * b for a, b in zip(numbers, drift)) > 0 for numbers, _ in system[1]):
                return False
        return True

    def test_other_right_papers(self):
        system, places = self.CASES[2]
        shape, (word, sums, points, drifts) = outline(system, places), outline_paper(*self.CASES[2])
        doubled = [tuple(2 * number for number in drift) for drift in drifts]
        self.assertIs(is_outline_paper((word, sums, points, doubled), system, places, shape), True)
        moved = [shifted(point, (0, -1, 0), (7, 2)) for point in points]
        self.assertIs(is_outline_paper((word, sums, moved, drifts), system, places, shape), True)
        for wrong in [
                (word, sums, points, [tuple(-number for number in drift) for drift in drifts]),
                (word, sums, points, [(0, 0, 0)] * len(drifts)), (word, sums, points, drifts[:-1]),
                (word, sums[:-1], points, drifts), (word, sums, points[:-1], drifts), (word, sums, points + points, drifts),
                (word, sums, points, list(reversed(drifts))),
                (word, tuple(sums), points, drifts), ("clash", sums, points, drifts), ("clash", sums[0]),
                (word, sums, [[plus(a, whole(1)) for a in point] for point in points], drifts)]:
            self.assertIs(is_outline_paper(wrong, system, places, shape), False, wrong)

    def test_for_no_other_shape(self):
        papers = []
        for made, system, places in made_cases(52, 60):
            papers.append((system, places, outline(system, places), outline_paper(system, places)))
        for system, places, shape, paper in papers:
            for _, _, other, other_paper in papers:
                if other != shape and other[1] == shape[1]:
                    self.assertIs(is_outline_paper(paper, system, places, other), False)
                    self.assertIs(is_outline_paper(other_paper, system, places, other), False)

    def test_clashes(self):
        system = (2, [((1, 0), 0), ((-1, 0), -1), ((0, 1), 3)])
        good = [(1, 1), (1, 1), (0, 1)]
        self.assertIs(is_outline_paper(("clash", good), system, [1], ("empty", 1)), True)
        self.assertIs(is_outline_paper(("clash", [told(5 * exact(a)) for a in good]), system, [1], ("empty", 1)), True)
        for wrong in [("clash", good[:2]), ("clash", good + [(0, 1)]), ("clash", [(1, 1)] * 3), ("set", good),
                      ["clash", good], ("clash", tuple(good)), ("clash", [(0, 1)] * 3), ("clash", good, []), ("clash",)]:
            self.assertIs(is_outline_paper(wrong, system, [1], ("empty", 1)), False, wrong)


if __name__ == "__main__":
    unittest.main()
