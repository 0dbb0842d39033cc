"""Systems brought down, worths put back, pinned, back up, images."""

import unittest

from allreadings.clashes import follows
from allreadings.errors import TooMany
from allreadings.fractions import whole
from allreadings.needless import equal, needless
from allreadings.outs import back_up, down_to, image_system, is_back_up, lean_down_to, pinned, put_back
from allreadings.pairing import taken_out
from allreadings.points import is_point
from allreadings.rowsof import broken_rows, is_plain, tidied, worth_at
from allreadings.solving import has_point, point_of
from tests.made import STRANGE, Made, changed, with_bools, with_kinds
from tests.test_pairing import spread

CORNER = (2, [((1, 1), 4), ((-1, 0), 0), ((0, -1), 0), ((1, -1), 1)])


def made_cases(seed, count):
    """Systems with places, none to all of them."""
    made = Made(seed)
    for _ in range(count):
        many = made.number(0, 4)
        yield made, made.system(many, made.number(0, 8)), [k for k in range(many) if made.number(0, 1)]


def widened(row, places, many):
    numbers = [0] * many
    for place, number in zip(places, row[0]):
        numbers[place] = number
    return (tuple(numbers), row[1])


def lean_by_words(system, places):
    """The lean way, step by step, with needless and taken_out alone."""
    def lean(given):
        out = needless(given)
        return (given[0], [row for place, row in enumerate(given[1]) if place not in out])
    current = lean(tidied(system))
    for place in reversed(range(system[0])):
        if place not in places:
            current = lean(taken_out(current, place)[0])
    return current


class Down(unittest.TestCase):
    def test_made(self):
        for made, system, places in made_cases(1, 250):
            before = (system[0], list(system[1]), list(places))
            told = {}
            for function in (down_to, lean_down_to):
                down, papers = function(system, places)
                told[function] = down
                self.assertEqual(down[0], len(places))
                self.assertEqual(len(papers), len(down[1]))
                self.assertEqual(tidied(down), down)
                for row, weights in zip(down[1], papers):
                    self.assertTrue(follows(system, widened(row, places, system[0]), weights))
            self.assertEqual((system[0], system[1], places), before)
            self.assertIn(equal(told[down_to], told[lean_down_to])[0], ("equal", "none"))
            self.assertEqual(needless(told[lean_down_to]), [])
            self.assertEqual(told[lean_down_to], lean_by_words(system, places))
            current = tidied(system)
            for place in reversed(range(system[0])):
                if place not in places:
                    current = taken_out(current, place)[0]
            self.assertEqual(told[down_to], current)
            mixed_up = (system[0], made.mixed_up(system[1]))
            self.assertEqual(down_to(mixed_up, places)[0], told[down_to])
            self.assertEqual(lean_down_to(mixed_up, places)[0], told[lean_down_to])

    def test_edges(self):
        for function in (down_to, lean_down_to):
            self.assertEqual(function(system=(0, []), places=[]), ((0, []), []))
            self.assertEqual(function((0, [((), -4)]), []), ((0, [((), -1)]), [[(1, 4)]]))
            self.assertEqual(function((2, [((2, 0), 4)]), [0, 1]), ((2, [((1, 0), 2)]), [[(1, 2)]]))
            self.assertEqual(function((2, [((1, 0), 0), ((-1, 0), -1)]), [])[0], (0, [((), -1)]))
            self.assertEqual(function((3, [((1, 2, 3), 4)]), [1]), ((1, []), []))
        # Even where nothing is taken out the lean way leaves out needless rows.
        row = (1, [((-1,), 0), ((1,), 4), ((-1,), 1)])
        self.assertEqual([down_to(row, [0])[0], lean_down_to(row, [0])[0]], [(1, [((-1,), 0), ((1,), 4)])] * 2)
        square = (2, [((1, 0), 1), ((0, 1), 1), ((1, 1), 2)])
        self.assertEqual(down_to(square, [0, 1])[0], (2, sorted(square[1])))
        self.assertEqual(lean_down_to(square, [0, 1])[0], (2, [((0, 1), 1), ((1, 0), 1)]))

    def test_rows_left(self):
        for function in (down_to, lean_down_to):
            self.assertEqual(len(needless(tidied(spread(20, 20, 1)))), 0)
            self.assertLessEqual(len(function(spread(20, 20, 0), [0, 1])[0][1]), 400)
            with self.assertRaises(TooMany) as caught:
                function(spread(20, 20, 1), [0, 1])
            self.assertEqual(vars(caught.exception), {"what": "rows", "limit": 400})
        with self.assertRaises(TooMany):
            put_back(spread(20, 20, 1), [0, 1], [(0, 1), (0, 1)])
        with self.assertRaises(TooMany) as caught:
            image_system(spread(20, 20, 1), [(1, 0, 0), (0, 1, 0)])
        self.assertEqual(vars(caught.exception), {"what": "rows", "limit": 400})
        # The lean way may be had where the plain one is not, if enough of the rows are needless.
        many, rows = spread(20, 20, 1)
        more = (many, rows[:20] + [((0, 0, -1), k) for k in range(2)] + [((k, 1, -1), 9 * k) for k in range(20)])
        doubled = (many, more[1] + [((2 * k, 1, -2), 9 * k + 1) for k in range(20)])
        self.assertRaises(TooMany, down_to, doubled, [0, 1])
        self.assertLess(len(lean_down_to(doubled, [0, 1])[0][1]), 400)


class Back(unittest.TestCase):
    def test_put_back(self):
        found = {True: 0, False: 0}
        for made, system, places in made_cases(2, 300):
            point = made.point(len(places))
            some = point_of(system)
            if some is not None and made.number(0, 1):
                point = [some[place] for place in places]
            before = (list(system[1]), list(places), list(point))
            back = put_back(system, places, point)
            self.assertEqual((system[1], places, point), before)
            found[back is None] += 1
            for function in (down_to, lean_down_to):
                self.assertEqual(broken_rows(function(system, places)[0], point) == [], back is not None)
            if back is not None:
                self.assertTrue(is_point(back, system[0]))
                self.assertEqual([back[place] for place in places], point)
                self.assertEqual(broken_rows(system, back), [])
            self.assertEqual(put_back((system[0], made.mixed_up(system[1] + system[1][:1])), places, point), back)
            self.assertEqual(has_point(pinned(system, places, point)), back is not None)
        self.assertGreater(min(found.values()), 50)

    def test_put_back_edges(self):
        self.assertEqual(put_back(system=(0, []), places=[], point=[]), [])
        self.assertIsNone(put_back((0, [((), -1)]), [], []))
        self.assertEqual(put_back((3, []), [1], [(5, 2)]), [(0, 1), (5, 2), (0, 1)])
        # low, or high if there is no low; the unknown taken out last is put back first.
        self.assertEqual(put_back((2, [((1, 1), 4), ((0, -1), 3)]), [], []), [(7, 1), (-3, 1)])
        self.assertEqual(put_back((2, [((1, 1), 4)]), [0], [(1, 2)]), [(1, 2), (7, 2)])
        self.assertEqual(put_back((2, [((-1, 1), 0), ((1, -1), 0), ((-1, 0), -2)]), [], []), [(2, 1), (2, 1)])

    def test_pinned(self):
        self.assertEqual(
            pinned(system=CORNER, places=[1], point=[(1, 3)]),
            (1, [((3,), 11), ((-1,), 0), ((0,), 0), ((3,), 4)]))
        self.assertEqual(pinned(CORNER, [0, 1], [(3, 1), (1, 1)]), (0, [((), 0), ((), 0), ((), 0), ((), -1)]))
        self.assertEqual(pinned((1, [((2,), 4)]), [], []), (1, [((1,), 2)]))
        for made, system, places in made_cases(3, 150):
            point, others = made.point(len(places)), [k for k in range(system[0]) if k not in places]
            told = pinned(system, places, point)
            self.assertEqual([told[0], len(told[1])], [len(others), len(system[1])])
            rest = made.point(len(others))
            whole_point = [None] * system[0]
            for place, worth in zip(places + others, point + rest):
                whole_point[place] = worth
            self.assertEqual(broken_rows(told, rest), broken_rows(system, whole_point))
            self.assertTrue(all(is_plain(row) for row in told[1]))

    def test_back_up(self):
        words = {"point": 0, "barred": 0}
        for made, system, places in made_cases(4, 300):
            point = made.point(len(places))
            told = back_up(system, places, point)
            words[told[0]] += 1
            self.assertIs(is_back_up(system, places, point, told), True)
            self.assertEqual(told[0] == "point", put_back(system, places, point) is not None)
        self.assertGreater(min(words.values()), 50)

    def test_judge(self):
        good = [([0], [(2, 1)], ("point", [(2, 1), (1, 1)])), ([0], [(2, 1)], ("point", [(2, 1), (2, 1)])),
                ([0], [(3, 1)], ("barred", [(1, 1), (0, 1), (0, 1), (1, 1)])),
                ([0, 1], [(3, 1), (0, 1)], ("barred", [(0, 1), (0, 1), (0, 1), (1, 1)])),
                ([], [], ("point", [(0, 1), (0, 1)]))]
        for places, point, value in good:
            self.assertIs(is_back_up(system=CORNER, places=places, point=point, value=value), True)
            for other in [*with_bools(value), *with_kinds(value)]:
                self.assertIs(is_back_up(CORNER, places, point, other), False)
            for other in STRANGE + list(changed(value)):
                self.assertIsInstance(is_back_up(CORNER, places, point, other), bool)
        for places, point, value in [
            ([0], [(2, 1)], ("point", [(1, 1), (1, 1)])), ([0], [(2, 1)], ("point", [(2, 1), (3, 1)])),
            ([0], [(2, 1)], ("point", [(2, 1)])), ([0], [(5, 2)], ("barred", [(1, 1), (0, 1), (0, 1), (1, 1)])),
            ([0], [(3, 1)], ("barred", [(1, 1), (0, 1), (0, 1), (0, 1)])),
            ([0], [(3, 1)], ("barred", [(0, 1)] * 4)), ([0], [(3, 1)], ("barred", [(1, 1), (0, 1), (1, 1)])),
            ([1], [(3, 1)], ("barred", [(1, 1), (0, 1), (0, 1), (1, 1)])),
            ([0], [(3, 1)], ("barred", [(0, 1), (0, 1), (0, 1), (1, 1)])),
            ([0], [(3, 1)], ("bar", [(1, 1), (0, 1), (0, 1), (1, 1)])),
            ([0], [(3, 1)], (None, [(1, 1), (0, 1), (0, 1), (1, 1)])),
            ([0], [(2, 1)], ("point", [(2, 1), (1, 1)], 0)), ([0], [(2, 1)], ("Point", [(2, 1), (1, 1)])),
            ([0], [(3, 1)], ("barred", [(-1, 1), (0, 1), (0, 1), (-1, 1)])),
        ]:
            self.assertIs(is_back_up(CORNER, places, point, value), False, value)


class Images(unittest.TestCase):
    def test_made(self):
        made = Made(5)
        for _ in range(200):
            many = made.number(0, 3)
            system = made.system(many, made.number(0, 6))
            forms = [made.numbers(many, 2) for _ in range(made.number(0, 3))]
            before = (list(system[1]), list(forms))
            image, papers = image_system(system, forms)
            self.assertEqual((system[1], forms), before)
            self.assertEqual(image[0], len(forms))
            self.assertEqual(tidied(image), image)
            self.assertEqual(needless(image), [])
            self.assertEqual(len(papers), len(image[1]))
            for (numbers, most), weights in zip(image[1], papers):
                mixed = tuple(sum(g * form[k] for g, form in zip(numbers, forms)) for k in range(many))
                self.assertTrue(follows(system, (mixed, most), weights))
            self.assertEqual(has_point(image), has_point(system))
            point = point_of(system)
            if point is not None:
                self.assertEqual(broken_rows(image, [worth_at(form, point) for form in forms]), [])
            for _ in range(3):
                worths = [whole(made.number(-4, 4)) for _ in forms]
                exactly = list(system[1])
                for form, worth in zip(forms, worths):
                    exactly += [(form, worth[0]), (tuple(-a for a in form), -worth[0])]
                self.assertEqual(has_point((many, exactly)), broken_rows(image, worths) == [])

    def test_edges(self):
        self.assertEqual(image_system((0, []), []), ((0, []), []))
        self.assertEqual(image_system((0, []), [(), ()])[0], (2, [((-1, 0), 0), ((0, -1), 0), ((0, 1), 0), ((1, 0), 0)]))
        self.assertEqual(image_system(system=(1, [((1,), -1), ((-1,), 0)]), forms=[(1,)])[0], (1, [((0,), -1)]))
        self.assertEqual(image_system((1, []), [(2,)]), ((1, []), []))
        # Equal forms have equal worths.
        self.assertEqual(image_system((1, []), [(1,), (1,)])[0], (2, [((-1, 1), 0), ((1, -1), 0)]))
        image = image_system((16, [((1,) * 16, 3)]), [(1,) * 16, (2,) * 16, (0,) * 16, (1,) * 16])[0]
        self.assertEqual(needless(image), [])
        self.assertEqual(equal(image, (4, [
            ((1, 0, 0, 0), 3), ((2, -1, 0, 0), 0), ((-2, 1, 0, 0), 0), ((0, 0, 1, 0), 0), ((0, 0, -1, 0), 0),
            ((1, 0, 0, -1), 0), ((-1, 0, 0, 1), 0)]))[0], "equal")

    def test_long(self):
        made = Made(6)
        rows = [(made.numbers(3, 9), made.number(0, 30)) for _ in range(400)]
        image, papers = image_system((3, rows), [(1, 2, 3)])
        self.assertEqual(len(image[1]), 2)
        for (numbers, most), weights in zip(image[1], papers):
            self.assertEqual(len(weights), 400)
            self.assertTrue(follows((3, rows), (tuple(numbers[0] * n for n in (1, 2, 3)), most), weights))


if __name__ == "__main__":
    unittest.main()
