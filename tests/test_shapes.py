"""Shapes: of systems by both ways, hulls, cuts, mixes, and their judges."""

import unittest

from allreadings.corners import cut, is_mix, mix_of, plain_shape
from allreadings.errors import InvalidMany
from allreadings.fractions import compare, fraction, plus, times, whole
from allreadings.greatest import follow_of
from allreadings.needless import equal
from allreadings.points import mixed, rising_points, shifted
from allreadings.rowsof import band_rows, broken_rows, is_plain, row_of
from allreadings.shapes import empty_shape, hull, is_shape, shape_of, system_of, whole_shape
from allreadings.solving import has_point
from tests.made import BIG, STRANGE, Made, changed, exact, with_bools, with_kinds

NOUGHT = (0, 1)
ORIGIN = [NOUGHT, NOUGHT]

# Systems, and just the shape of each, as the document tells it for each kind of set.
KINDS = {
    "all numbers": ((1, []), ("shape", 1, [], [[NOUGHT]], [(-1,), (1,)])),
    "up from": ((1, [((-2,), -1)]), ("shape", 1, [((-2,), -1)], [[(1, 2)]], [(1,)])),
    "down from": ((1, [((3,), 1)]), ("shape", 1, [((3,), 1)], [[(1, 3)]], [(-1,)])),
    "one number": ((1, [((2,), 1), ((-4,), -2)]), ("shape", 1, [((-2,), -1), ((2,), 1)], [[(1, 2)]], [])),
    "from to": ((1, [((1,), 4), ((-1,), 0)]), ("shape", 1, [((-1,), 0), ((1,), 4)], [[NOUGHT], [(4, 1)]], [])),
    "none of one": ((1, [((1,), 4), ((-1,), -5)]), ("empty", 1)),
    "false of one": ((1, [((0,), -3), ((1,), 1)]), ("empty", 1)),
    "plane": ((2, [((0, 0), 0)]), ("shape", 2, [], [ORIGIN], [(-1, 0), (0, -1), (0, 1), (1, 0)])),
    "half plane": (
        (2, [((2, 4), 6), ((1, 2), 5)]),
        ("shape", 2, [((1, 2), 3)], [[(3, 5), (6, 5)]], [(-2, 1), (-1, -2), (2, -1)])),
    "strip": (
        (2, [((1, 1), 3), ((-2, -2), 2)]),
        ("shape", 2, [((-1, -1), 1), ((1, 1), 3)], [[(-1, 2), (-1, 2)], [(3, 2), (3, 2)]], [(-1, 1), (1, -1)])),
    "line": (
        (2, [((2, -1), 5), ((-4, 2), -10)]),
        ("shape", 2, [((-2, 1), -5), ((2, -1), 5)], [[(2, 1), (-1, 1)]], [(-1, -2), (1, 2)])),
    "no strip": ((2, [((1, 1), 3), ((-2, -2), -7)]), ("empty", 2)),
    "corner": (
        (2, [((-1, 0), 0), ((0, -1), 0), ((-1, -1), 0)]),
        ("shape", 2, [((-1, 0), 0), ((0, -1), 0)], [ORIGIN], [(0, 1), (1, 0)])),
    "half line": (
        (2, [((1, -1), 0), ((-1, 1), 0), ((-1, 0), -2)]),
        ("shape", 2, [((-1, -1), -4), ((-1, 1), 0), ((1, -1), 0)], [[(2, 1), (2, 1)]], [(1, 1)])),
    "stretch": (
        (2, [((1, 2), 2), ((-1, -2), -2), ((-1, 0), 0), ((0, -1), 0)]),
        ("shape", 2, [((-2, 1), 1), ((-1, -2), -2), ((1, 2), 2), ((2, -1), 4)],
         [[NOUGHT, (1, 1)], [(2, 1), NOUGHT]], [])),
    "point": (
        (2, [((1, 0), 1), ((0, 2), 1), ((-1, -2), -2)]),
        ("shape", 2, [((-1, 0), -1), ((0, -2), -1), ((0, 2), 1), ((1, 0), 1)], [[(1, 1), (1, 2)]], [])),
    "half strip": (
        (2, [((-1, 0), 0), ((1, 0), 2), ((1, -1), 3)]),
        ("shape", 2, [((-1, 0), 0), ((1, -1), 3), ((1, 0), 2)], [[NOUGHT, (-3, 1)], [(2, 1), (-1, 1)]], [(0, 1)])),
    "triangle": (
        (2, [((1, 1), 2), ((-1, 0), 0), ((0, -1), 0), ((1, 0), 2)]),
        ("shape", 2, [((-1, 0), 0), ((0, -1), 0), ((1, 1), 2)], [ORIGIN, [NOUGHT, (2, 1)], [(2, 1), NOUGHT]], [])),
    "none of two": ((2, [((1, 1), -1), ((-1, 0), 0), ((0, -1), 0)]), ("empty", 2)),
}


def made_shapes(seed, count):
    made = Made(seed)
    for _ in range(count):
        many = made.number(1, 2)
        if made.number(0, 1):
            yield made, shape_of(made.system(many, made.number(0, 7), made.one_of([1, 2, 5])))
        else:
            points = [made.point(many, 3) for _ in range(made.number(1, 5))]
            yield made, hull(many, points, [made.direction(many) for _ in range(made.one_of([0, 0, 1, 2, 3]))])


class Shapes(unittest.TestCase):
    def check(self, shape):
        """All that point 7 tells of a shape."""
        self.assertIs(is_shape(shape), True)
        if shape[0] == "empty":
            return
        _, many, rows, corners, directions = shape
        self.assertEqual(rows, sorted(rows))
        self.assertEqual(directions, sorted(directions))
        self.assertEqual(corners, rising_points(corners))
        for place, row in enumerate(rows):
            self.assertTrue(is_plain(row) and any(row[0]))
            self.assertIsNone(follow_of((many, rows[:place] + rows[place + 1:]), row))
        self.assertEqual(hull(many, corners, directions), shape)
        self.assertEqual(shape_of((many, rows)), shape)
        lines = any(tuple(-a for a in way) in directions for way in directions)
        for place, corner in enumerate(corners):
            self.assertEqual(broken_rows((many, rows), corner), [])
            if not lines and len(corners) > 1:
                self.assertNotEqual(hull(many, corners[:place] + corners[place + 1:], directions), shape)
        for place in range(len(directions)):
            self.assertNotEqual(hull(many, corners, directions[:place] + directions[place + 1:]), shape)

    def test_kinds(self):
        for name, (system, shape) in KINDS.items():
            self.assertEqual(shape_of(system), shape, name)
            self.assertEqual(plain_shape(system), shape, name)
            self.check(shape)
            if shape[0] == "shape":
                self.assertEqual(hull(shape[1], shape[3], shape[4]), shape, name)

    def test_both_ways(self):
        made = Made(1)
        for _ in range(500):
            many = made.number(1, 2)
            system = made.system(many, made.number(0, 8), made.one_of([1, 2, 5, BIG]))
            before = (many, list(system[1]))
            shape = shape_of(system)
            self.assertEqual(plain_shape(system), shape)
            self.assertEqual(system, before)
            self.check(shape)
            self.assertEqual(shape[0] == "shape", has_point(system))
            self.assertEqual(shape_of((many, made.mixed_up(system[1] + system[1][:3]))), shape)
            if shape[0] == "shape":
                self.assertEqual(equal(system, system_of(shape))[0], "equal")
                self.assertLessEqual(len(shape[2]), max(4, len(system[1])))
                self.assertLessEqual(len(shape[3]), max(1, len(shape[2])))
                self.assertLessEqual(len(shape[4]), 4)

    def test_long(self):
        # 400 rows of which none can be left out: sides of a polygon round a circle.
        steps = [(k, 101 - k) for k in range(1, 101)]
        ways = [(a, b) for a, b in steps] + [(-b, a) for a, b in steps]
        ways += [(-a, -b) for a, b in steps] + [(b, -a) for a, b in steps]
        rows = [(way, 10 ** 4 + (way[0] * way[0] + way[1] * way[1])) for way in ways]
        shape = shape_of((2, rows))
        self.assertIs(is_shape(shape), True)
        self.assertEqual(plain_shape((2, rows)), shape)
        self.assertGreater(len(shape[3]), 100)
        self.assertEqual(hull(2, shape[3], []), shape)

    def test_numbers_of_thirty_digits(self):
        shape = shape_of((2, [((BIG, 1), 1), ((-BIG, 1 - BIG), BIG), ((0, 1), BIG - 2)]))
        self.check(shape)
        self.assertEqual(len(shape[3]), 3)

    def test_many(self):
        for function in (empty_shape, whole_shape):
            for many in (0, 3, -1, True, None, "1", [1]):
                with self.assertRaises(InvalidMany) as caught:
                    function(many=many)
                self.assertIs(caught.exception.value, many)
        for many in (0, 3, -1, True, None):
            with self.assertRaises(InvalidMany) as caught:
                hull(many=many, points=[], directions=[])
            self.assertIs(caught.exception.value, many)
        for function in (shape_of, plain_shape):
            for many in (0, 3, 20):
                with self.assertRaises(InvalidMany) as caught:
                    function(system=(many, []))
                self.assertEqual(vars(caught.exception), {"value": many})
        self.assertEqual([empty_shape(1), empty_shape(2)], [("empty", 1), ("empty", 2)])
        self.assertEqual(whole_shape(1), KINDS["all numbers"][1])
        self.assertEqual(whole_shape(2), KINDS["plane"][1])

    def test_system_of(self):
        for system, shape in KINDS.values():
            told = system_of(shape=shape)
            self.assertEqual(shape_of(told), shape)
            if shape[0] == "empty":
                self.assertEqual(told, (shape[1], [((0,) * shape[1], -1)]))
            else:
                self.assertEqual(told, (shape[1], shape[2]))
                self.assertIsNot(told[1], shape[2])

    def test_is_shape(self):
        for _, shape in KINDS.values():
            for value in [*with_bools(shape), *with_kinds(shape)]:
                self.assertIs(is_shape(value), False, value)
            for value in changed(shape):
                answer = is_shape(value=value)
                self.assertIsInstance(answer, bool)
                if answer:
                    self.check(value)
        for value in STRANGE:
            self.assertIs(is_shape(value), value == ("empty", 1) and value[1] is not True)
        triangle = KINDS["triangle"][1]
        for value in [
            triangle[:2] + (triangle[2][::-1],) + triangle[3:], triangle[:3] + (triangle[3][::-1],) + triangle[4:],
            triangle[:2] + (triangle[2] + [((1, 0), 2)],) + triangle[3:], triangle[:3] + (triangle[3][:2], []),
            triangle[:3] + (triangle[3] + [[(1, 2), (1, 2)]], []), triangle[:4] + ([(1, 0)],),
            triangle[:2] + ([((-1, 0), 0), ((0, -1), 0), ((2, 2), 4)],) + triangle[3:], ("empty", 0), ("empty", 3),
            ("empty",), ("empty", 1, 2), ("shape", 2, [], [], []), ("shape", 1, [], [[NOUGHT]], [(1,), (-1,)]),
            ("shape", 1, [((2,), 1)], [[(1, 2)]], [(-2,)]), ("shape", 1, [((2,), 1)], [[(2, 4)]], [(-1,)]),
            ("shape", 1, [], [[(1, 1)]], [(-1,), (1,)]), ("shape", 1, [((0,), -1)], [], []),
            ("shape", 2, [((0, -1), 0), ((0, 1), 0)], [[(1, 1), NOUGHT]], [(-1, 0), (1, 0)]),
            ("shape", 2, [((-1, 0), 0), ((0, -1), 0), ((1, 1), 0)], [ORIGIN], []),
        ]:
            self.assertIs(is_shape(value), False, value)


class Hulls(unittest.TestCase):
    def test_kinds(self):
        edge = [[NOUGHT, NOUGHT], [(2, 1), NOUGHT]]
        self.assertEqual(hull(2, [], [(1, 0)]), ("empty", 2))
        self.assertEqual(hull(1, [], []), ("empty", 1))
        self.assertEqual(hull(2, edge, [(0, 3), (0, 1), (0, 3)])[3:], (edge, [(0, 1)]))
        self.assertEqual(hull(2, edge, [(1, 0)])[3:], (edge[:1], [(1, 0)]))
        self.assertEqual(hull(2, edge, [(1, 0), (-1, 0)]), shape_of((2, [((0, 1), 0), ((0, -1), 0)])))
        self.assertEqual(hull(2, edge, [(0, 1), (0, -5)]), shape_of((2, [((1, 0), 2), ((-1, 0), 0)])))
        self.assertEqual(hull(2, edge, [(1, 1), (-1, -1), (0, 1)]), shape_of((2, [((1, -1), 2)])))
        self.assertEqual(hull(2, edge, [(1, 1), (-1, 0), (0, -1)]), whole_shape(2))
        self.assertEqual(hull(2, edge, [(1, 1), (-1, -1), (0, 1), (1, 0)]), whole_shape(2))
        self.assertEqual(hull(2, edge, [(1, 2), (0, 1), (1, 0), (3, 1)])[3:], (edge[:1], [(0, 1), (1, 0)]))
        self.assertEqual(hull(1, [[(1, 1)], [(3, 1)]], [(7,), (2,)]), shape_of((1, [((-1,), -1)])))
        self.assertEqual(hull(1, [[(1, 1)], [(3, 1)]], [(7,), (-2,)]), whole_shape(1))
        middle = [[fraction(k, 7), NOUGHT] for k in range(15)]
        self.assertEqual(hull(2, middle, []), hull(2, edge, []))

    def test_made(self):
        made = Made(2)
        for _ in range(300):
            many = made.number(1, 2)
            points = [made.point(many, made.one_of([2, 9])) for _ in range(made.number(1, 7))]
            ways = [made.direction(many) for _ in range(made.one_of([0, 0, 1, 1, 2, 3]))]
            before = ([list(point) for point in points], list(ways))
            shape = hull(many, points, ways)
            self.assertEqual((points, ways), before)
            Shapes.check(self, shape)
            self.assertEqual(hull(many, made.mixed_up(points + points), made.mixed_up(
                [tuple(2 * a for a in way) for way in ways] + ways)), shape)
            for point in points:
                self.assertEqual(broken_rows(system_of(shape), point), [])
            for row in shape[2]:
                self.assertTrue(all(sum(a * b for a, b in zip(row[0], way)) <= 0 for way in ways))
            # Each row holds just at some point, so it cannot be drawn closer; without directions on both sides.
            lines = any(tuple(-a for a in way) in shape[4] for way in shape[4])
            if not lines:
                self.assertTrue(all(corner in points for corner in shape[3]))
            for way in shape[4]:
                self.assertIsNotNone(mix_of(hull(many, [[NOUGHT] * many], ways), [whole(a) for a in way]))


class Cuts(unittest.TestCase):
    def test_cut(self):
        for made, shape in made_shapes(3, 300):
            many = shape[1]
            row = made.one_of([made.row(many), ((0,) * many, made.number(-2, 2)), made.row(many, 1)])
            before = repr(shape)
            told = cut(shape, row)
            self.assertEqual(repr(shape), before)
            Shapes.check(self, told)
            self.assertEqual(told, plain_shape((many, system_of(shape)[1] + [row])))
            for _ in range(4):
                point = made.point(many, 3)
                inside = not broken_rows(system_of(shape), point) and not broken_rows((many, [row]), point)
                self.assertEqual(broken_rows(system_of(told), point) == [], inside)
        self.assertEqual(cut(shape=("empty", 2), row=((1, 0), 1)), ("empty", 2))
        self.assertEqual(cut(whole_shape(2), ((0, 0), -1)), ("empty", 2))
        self.assertEqual(cut(whole_shape(2), ((0, 0), 3)), whole_shape(2))


class Mixes(unittest.TestCase):
    def test_mix_of(self):
        found = {True: 0, False: 0}
        for made, shape in made_shapes(4, 400):
            point = made.point(shape[1], 3)
            if shape[0] == "shape" and made.number(0, 1):
                parts = [made.number(0, 2) for _ in shape[3]]
                parts[0] += 1
                point = mixed(shape[3], [fraction(part, sum(parts)) for part in parts])
                for way in shape[4]:
                    point = shifted(point, way, fraction(made.number(0, 3), 2))
                self.assertEqual(broken_rows(system_of(shape), point), [])
            mix = mix_of(shape, point)
            found[mix is None] += 1
            self.assertEqual(mix is not None, broken_rows(system_of(shape), point) == [])
            if mix is not None:
                self.assertIs(is_mix(shape, point, mix), True)
                shares, amounts = mix
                self.assertEqual(sum(exact(share) for share in shares), 1)
                where = [NOUGHT] * shape[1]
                for share, corner in zip(shares, shape[3]):
                    where = [plus(a, times(share, b)) for a, b in zip(where, corner)]
                for amount, way in zip(amounts, shape[4]):
                    where = shifted(where, way, amount)
                self.assertEqual(where, point)
        self.assertGreater(min(found.values()), 80)
        self.assertIsNone(mix_of(shape=("empty", 1), point=[(0, 1)]))

    def test_is_mix(self):
        half = ("shape", 1, [((-1,), 0)], [[NOUGHT]], [(1,)])
        edge = hull(1, [[NOUGHT], [(4, 1)]], [])
        good = [(half, [(3, 1)], ([(1, 1)], [(3, 1)])), (edge, [(1, 1)], ([(3, 4), (1, 4)], [])),
                (whole_shape(1), [NOUGHT], ([(1, 1)], [(2, 1), (2, 1)]))]
        for shape, point, value in good:
            self.assertIs(is_mix(shape=shape, point=point, value=value), True)
            for other in [*with_bools(value), *with_kinds(value)]:
                self.assertIs(is_mix(shape, point, other), False)
            for other in STRANGE + list(changed(value)):
                self.assertIsInstance(is_mix(shape, point, other), bool)
                self.assertIs(is_mix(("empty", 1), point, other), False)
        for shape, point, value in [
            (half, [(3, 1)], ([(1, 1)], [(2, 1)])), (half, [(3, 1)], ([(1, 1)], [])), (half, [(3, 1)], ([], [(3, 1)])),
            (half, [(3, 1)], ([(2, 1)], [(3, 1)])), (half, [(-3, 1)], ([(1, 1)], [(-3, 1)])),
            (half, [(3, 1)], ([(0, 1)], [(3, 1)])), (half, [(3, 1)], ([(1, 1)], [(3, 1)], [])),
            (edge, [(8, 1)], ([(-1, 1), (2, 1)], [])), (edge, [(1, 1)], ([(1, 4), (3, 4)], [])),
            (edge, [(1, 1)], ([(1, 2), (1, 4)], [])), (edge, [(1, 1)], ([(3, 4), (1, 4)], [(0, 1)])),
            (edge, [(1, 1)], ([(0, 1), (1, 4)], [])), (edge, [(1, 1)], [[(3, 4), (1, 4)], []]),
        ]:
            self.assertIs(is_mix(shape, point, value), False, value)

    def test_made_wrong(self):
        for made, shape in made_shapes(5, 60):
            if shape[0] == "shape":
                point = shape[3][0]
                mix = mix_of(shape, point)
                shares, amounts = mix
                for at in range(len(shares)):
                    wrong = shares[:at] + [plus(shares[at], (1, 5))] + shares[at + 1:]
                    self.assertIs(is_mix(shape, point, (wrong, amounts)), False)
                for at in range(len(amounts)):
                    wrong = amounts[:at] + [plus(amounts[at], (1, 5))] + amounts[at + 1:]
                    self.assertIs(is_mix(shape, point, (shares, wrong)), False)


class Feet(unittest.TestCase):
    def test_nearest(self):
        # A half plane's corner is the nearest point of its border: no other point of the border is nearer.
        made = Made(6)
        for _ in range(60):
            numbers, most = made.direction(2), made.number(-9, 9)
            shape = shape_of((2, [(numbers, most)]))
            foot = shape[3][0]
            self.assertEqual(row_of([whole(a) for a in numbers], whole(most)), shape[2][0])
            self.assertEqual(broken_rows((2, band_rows(numbers, whole(most), whole(most))), foot), [])
            size = plus(times(foot[0], foot[0]), times(foot[1], foot[1]))
            for step in ((1, 9), (-1, 9)):
                other = shifted(foot, (-numbers[1], numbers[0]), step)
                self.assertEqual(broken_rows((2, band_rows(numbers, whole(most), whole(most))), other), [])
                self.assertEqual(compare(size, plus(times(other[0], other[0]), times(other[1], other[1]))), -1)


if __name__ == "__main__":
    unittest.main()
