"""Points inside and outside; meets, hulls and sums; images of shapes."""

import unittest

from allreadings.fractions import compare, minus, opposite, plus, whole
from allreadings.greatest import bounds_of
from allreadings.images import behind, bounds, greatest_face, image, moved_shape, width
from allreadings.meets import around, contains, is_within, meet, outside, sum_of_shapes
from allreadings.rowsof import broken_rows, worth_at
from allreadings.shapes import hull, is_shape, shape_of, system_of, whole_shape
from tests.made import Made
from tests.test_shapes import KINDS, made_shapes

ALL = [shape for _, shape in KINDS.values()]


def pairs(seed, count):
    """Shapes of the same many, those of each kind with each other one as well."""
    last = {1: ("empty", 1), 2: ("empty", 2)}
    for made, shape in made_shapes(seed, count):
        yield made, shape, last[shape[1]]
        last[shape[1]] = shape
    made = Made(seed)
    for shape in ALL:
        for other in ALL:
            if shape[1] == other[1]:
                yield made, shape, other


class Meets(unittest.TestCase):
    def test_contains(self):
        for made, shape, _ in pairs(1, 150):
            for _ in range(4):
                point = made.point(shape[1], 3)
                self.assertIs(contains(shape, point), broken_rows(system_of(shape), point) == [])
        self.assertIs(contains(shape=("empty", 1), point=[(0, 1)]), False)
        self.assertIs(contains(whole_shape(2), [(10 ** 29, 1), (-1, 7)]), True)
        self.assertIs(contains(("shape", 1, [((2,), 1)], [[(1, 2)]], [(-1,)]), [(1, 2)]), True)

    def test_within_and_outside(self):
        words = {True: 0, False: 0}
        for _, shape, other in pairs(2, 300):
            point = outside(shape, other)
            words[point is None] += 1
            self.assertIs(is_within(shape, other), point is None)
            self.assertEqual(point is None, meet(shape, other) == shape)
            if point is not None:
                self.assertIs(contains(shape, point), True)
                self.assertIs(contains(other, point), False)
                self.assertFalse(shape[0] == "shape" and any(point is corner for corner in shape[3]))
        self.assertGreater(min(words.values()), 60)
        self.assertIs(is_within(("empty", 2), ("empty", 2)), True)
        self.assertIs(is_within(shape=("empty", 2), other=whole_shape(2)), True)
        self.assertIs(is_within(whole_shape(2), ("empty", 2)), False)
        self.assertIsNone(outside(shape=("empty", 1), other=("empty", 1)))

    def test_meet_around_and_sum(self):
        for made, shape, other in pairs(3, 250):
            before = repr((shape, other))
            both, hold, added = meet(shape, other), around(shape, other), sum_of_shapes(shape, other)
            self.assertEqual(repr((shape, other)), before)
            self.assertTrue(is_shape(both) and is_shape(hold) and is_shape(added))
            self.assertEqual(
                (meet(other, shape), around(other, shape), sum_of_shapes(other, shape)), (both, hold, added))
            self.assertTrue(is_within(both, shape) and is_within(both, other))
            self.assertTrue(is_within(shape, hold) and is_within(other, hold))
            self.assertEqual([meet(shape, shape), around(shape, shape)], [shape, shape])
            for _ in range(3):
                point = made.point(shape[1], 3)
                self.assertEqual(contains(both, point), contains(shape, point) and contains(other, point))
            if shape[0] == "empty" or other[0] == "empty":
                self.assertEqual(added, ("empty", shape[1]))
                self.assertEqual(hold, other if shape[0] == "empty" else shape)
                continue
            # No hull of both is less, and no sum: its bounds come from those of the two.
            for _ in range(4):
                numbers = made.numbers(shape[1], 2)
                one, two = bounds(shape, numbers), bounds(other, numbers)
                sums = tuple(None if a is None or b is None else plus(a, b) for a, b in zip(one, two))
                self.assertEqual(bounds(added, numbers), sums)
                low = None if one[0] is None or two[0] is None else min(one[0], two[0], key=lambda a: a[0] / a[1])
                self.assertEqual(bounds(hold, numbers)[0], low)

    def test_by_name(self):
        near = hull(1, [[(0, 1)], [(2, 1)]], [])
        self.assertEqual(meet(shape=near, other=near), near)
        self.assertEqual(around(shape=near, other=near), near)
        self.assertEqual(sum_of_shapes(shape=near, other=near), hull(1, [[(0, 1)], [(4, 1)]], []))
        self.assertIs(is_within(shape=near, other=near), True)

    def test_sum_moves(self):
        for made, shape, _ in pairs(4, 60):
            point = made.point(shape[1])
            self.assertEqual(sum_of_shapes(shape, hull(shape[1], [point], [])), moved_shape(shape, point))


class Images(unittest.TestCase):
    def test_image(self):
        for made, shape, _ in pairs(5, 200):
            many = shape[1]
            forms = [made.numbers(many, 2) for _ in range(made.number(1, 2))]
            told = image(shape, forms)
            self.assertTrue(is_shape(told))
            self.assertEqual(told[1], len(forms))
            if shape[0] == "empty":
                self.assertEqual(told, ("empty", len(forms)))
                continue
            for corner in shape[3]:
                self.assertTrue(contains(told, [worth_at(form, corner) for form in forms]))
            for _ in range(4):
                numbers = made.numbers(len(forms), 2)
                mixed = tuple(sum(g * form[k] for g, form in zip(numbers, forms)) for k in range(many))
                self.assertEqual(bounds(told, numbers), bounds(shape, mixed))
        self.assertEqual(image(shape=whole_shape(2), forms=[(0, 0)]), hull(1, [[(0, 1)]], []))
        self.assertEqual(image(whole_shape(1), [(1,), (2,)]), shape_of((2, [((2, -1), 0), ((-2, 1), 0)])))

    def test_behind(self):
        for made, shape, _ in pairs(6, 200):
            many = made.number(1, 2)
            forms = [made.numbers(many, 2) for _ in range(shape[1])]
            told = behind(shape, forms)
            self.assertTrue(is_shape(told))
            self.assertEqual(told[1], many)
            for _ in range(5):
                point = made.point(many, 3)
                self.assertEqual(
                    contains(told, point), contains(shape, [worth_at(form, point) for form in forms]))
            self.assertTrue(is_within(image(told, forms), shape))
        self.assertEqual(behind(shape=("empty", 2), forms=[(1,), (1,)]), ("empty", 1))

    def test_moved(self):
        for made, shape, _ in pairs(7, 150):
            shift = made.point(shape[1])
            told = moved_shape(shape=shape, point=shift)
            self.assertTrue(is_shape(told))
            self.assertEqual(moved_shape(told, [opposite(a) for a in shift]), shape)
            for _ in range(3):
                point = made.point(shape[1], 3)
                self.assertEqual(contains(told, [plus(a, b) for a, b in zip(point, shift)]), contains(shape, point))
        self.assertEqual(moved_shape(("empty", 2), [(1, 1), (1, 2)]), ("empty", 2))

    def test_bounds_and_width(self):
        for made, shape, _ in pairs(8, 200):
            numbers = made.one_of([made.numbers(shape[1], 3), (0,) * shape[1]])
            told = bounds(shape=shape, numbers=numbers)
            self.assertEqual(told, bounds_of(system_of(shape), numbers))
            if told is None:
                self.assertEqual(shape[0], "empty")
                self.assertEqual(width(shape, numbers), (0, 1))
            else:
                missing = told[0] is None or told[1] is None
                self.assertEqual(width(shape=shape, numbers=numbers), None if missing else minus(told[1], told[0]))

    def test_greatest_face(self):
        for made, shape, _ in pairs(9, 200):
            numbers = made.one_of([made.numbers(shape[1], 2), made.direction(shape[1])])
            told = greatest_face(shape=shape, numbers=numbers)
            self.assertTrue(is_shape(told))
            worths = bounds(shape, numbers)
            if worths is None or worths[1] is None:
                self.assertEqual(told, ("empty", shape[1]))
                continue
            self.assertEqual(bounds(told, numbers), (worths[1], worths[1]))
            for corner in shape[3]:
                at_top = compare(worth_at(numbers, corner), worths[1]) == 0
                self.assertEqual(contains(told, corner), at_top)
            self.assertTrue(is_within(told, shape))
        box = hull(2, [[whole(a), whole(b)] for a in (0, 1) for b in (0, 1)], [])
        self.assertEqual(greatest_face(box, (1, 0)), hull(2, [[whole(1), whole(b)] for b in (0, 1)], []))
        self.assertEqual(greatest_face(box, (0, 0)), box)
        self.assertEqual(greatest_face(whole_shape(2), (0, 0)), whole_shape(2))


if __name__ == "__main__":
    unittest.main()
