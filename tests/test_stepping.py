"""Shapes stepped on and back, joint systems, stands led."""

import unittest

from allreadings.errors import TooMany
from allreadings.meets import contains, is_within
from allreadings.rowsof import keeps
from allreadings.shapes import empty_shape, hull, is_shape, shape_of, whole_shape
from allreadings.stepping import joint_system, led_stand, stepped, stepped_back, stepped_plain, turned_rows
from tests.made import MadeWorlds
from tests.test_shapes import KINDS, made_shapes

STRETCH = ("shape", 1, [((-1,), 0), ((1,), 2)], [[(0, 1)], [(2, 1)]], [])
ROUND = hull(2, [[(k, 1), (k * k, 1)] for k in range(-70, 71)], [])


def made_steps(seed, count):
    """Shapes with step rows for them."""
    other = MadeWorlds(seed)
    for made, shape in made_shapes(seed, count):
        many = shape[1]
        rows = other.drifting(many, 2) if other.number(0, 2) else other.system(2 * many, other.number(0, 6), 2)[1]
        yield other, shape, rows


class Joint(unittest.TestCase):
    def test_rows(self):
        rows = [((2, -4), 6), ((0, 0), -3)]
        self.assertEqual(joint_system(shape=STRETCH, rows=rows), (2, [((-1, 0), 0), ((1, 0), 2)] + rows))
        self.assertEqual(joint_system(("empty", 1), rows), (2, [((0, 0), -1)] + rows))
        self.assertEqual(joint_system(("empty", 2), []), (4, [((0, 0, 0, 0), -1)]))
        self.assertEqual(joint_system(whole_shape(2), []), (4, []))

    def test_turned(self):
        self.assertEqual(turned_rows(rows=[((1, 2), 3), ((0, 0), -1)]), [((2, 1), 3), ((0, 0), -1)])
        self.assertEqual(turned_rows([((1, 2, 3, 4), 5)]), [((3, 4, 1, 2), 5)])
        self.assertEqual(turned_rows([]), [])

    def test_too_many_rows(self):
        self.assertEqual(len(ROUND[2]), 141)
        rows = [((1, 0, -1, 0), 0), ((-1, 0, 1, 0), 0), ((0, 1, 0, -1), 0), ((0, -1, 0, 1), 0)] * 15
        self.assertEqual(len(joint_system(ROUND, rows[:59])[1]), 200)
        self.assertEqual(stepped(ROUND, rows[:59]), ROUND)
        self.assertEqual(stepped_back(ROUND, rows[:59]), ROUND)
        self.assertEqual(led_stand(ROUND, rows[:59], [(1, 1), (1, 1)]), [(1, 1), (1, 1)])
        for call in [lambda: joint_system(ROUND, rows), lambda: stepped(ROUND, rows), lambda: stepped_plain(ROUND, rows),
                     lambda: stepped_back(ROUND, rows), lambda: led_stand(ROUND, rows, [(1, 1), (1, 1)])]:
            with self.assertRaises(TooMany) as caught:
                call()
            self.assertEqual((caught.exception.what, caught.exception.limit), ("rows", 200))

    def test_too_many_rows_the_plain_way(self):
        shape = hull(2, [[(k, 1), (k * k, 1)] for k in range(-15, 16)], [])
        rows = [((1, 1, k, k * k), 9) for k in range(15)] + [((1, -1, -k, k * k), 9) for k in range(15)]
        with self.assertRaises(TooMany) as caught:
            stepped_plain(shape, rows)
        self.assertEqual((caught.exception.what, caught.exception.limit), ("rows", 400))


class Stepped(unittest.TestCase):
    def test_edges(self):
        for many in (1, 2):
            whole, empty = whole_shape(many), empty_shape(many)
            size = 2 * many
            for function in (stepped, stepped_plain, stepped_back):
                # Without rows each stand may come next to each other one.
                self.assertEqual(function(shape=whole, rows=[]), whole)
                self.assertEqual(function(whole, [((0,) * size, 5)]), whole)
                self.assertEqual(function(whole, [((0,) * size, -1)]), empty)
                self.assertEqual(function(empty, []), empty)
                self.assertEqual(function(empty, [((1,) * size, 5)]), empty)
        for _, shape in KINDS.values():
            expected = whole_shape(shape[1]) if shape[0] == "shape" else shape
            self.assertEqual(stepped(shape, []), expected)
            self.assertEqual(stepped_back(shape, []), expected)

    def test_kept_where_it_is(self):
        for _, shape in KINDS.values():
            many = shape[1]
            rows = []
            for k in range(many):
                numbers = [0] * (2 * many)
                numbers[k], numbers[many + k] = 1, -1
                rows += [(tuple(numbers), 0), (tuple(-number for number in numbers), 0)]
            for function in (stepped, stepped_plain, stepped_back):
                self.assertEqual(function(shape, rows), shape)

    def test_point(self):
        point = hull(2, [[(1, 2), (3, 1)]], [])
        rows = [((-2, 0, 1, 0), 0), ((2, 0, -1, 0), 0), ((0, -1, 0, 1), 1), ((0, 1, 0, -1), 1)]
        self.assertEqual(stepped(point, rows), hull(2, [[(1, 1), (2, 1)], [(1, 1), (4, 1)]], []))
        self.assertEqual(stepped_back(point, rows), hull(2, [[(1, 4), (2, 1)], [(1, 4), (4, 1)]], []))
        self.assertEqual(led_stand(shape=point, rows=rows, stand=[(1, 1), (7, 2)]), [(1, 2), (3, 1)])
        self.assertIsNone(led_stand(point, rows, [(1, 1), (9, 2)]))
        self.assertIsNone(led_stand(("empty", 2), rows, [(1, 1), (7, 2)]))

    def test_made(self):
        led = 0
        for made, shape, rows in made_steps(61, 250):
            before = repr((shape, rows))
            there = stepped(shape, rows)
            self.assertTrue(is_shape(there))
            self.assertEqual(stepped_plain(shape, rows), there)
            back = stepped_back(shape, rows)
            self.assertEqual(back, stepped(shape, turned_rows(rows)))
            self.assertEqual(turned_rows(turned_rows(rows)), rows)
            stands = [made.point(shape[1], 3) for _ in range(2)]
            stands += there[3][:2] if there[0] == "shape" else []
            for stand in stands:
                found = led_stand(shape, rows, stand)
                self.assertIs(found is not None, contains(there, stand))
                if found is not None:
                    led += 1
                    self.assertTrue(contains(shape, found))
                    self.assertTrue(all(keeps(row, found + stand) for row in rows))
                    self.assertTrue(contains(stepped_back(there, rows), found))
            smaller = shape_of((shape[1], (shape[2] if shape[0] == "shape" else [((0,) * shape[1], -1)])
                                + [made.row(shape[1])]))
            self.assertTrue(is_within(stepped(smaller, rows), there))
            self.assertTrue(is_within(stepped_back(smaller, rows), back))
            self.assertEqual(repr((shape, rows)), before)
        self.assertGreater(led, 150)


if __name__ == "__main__":
    unittest.main()
