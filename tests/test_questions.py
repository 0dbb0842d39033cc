"""Reaches, ends by both ways, highest worths, least peaks, and their judges."""

import unittest

from allreadings.clashes import is_clash
from allreadings.errors import TooMany
from allreadings.fractions import compare, greatest
from allreadings.linears import form_numbers, form_worth, is_known, is_known_move, known_course, known_rows, peak_worth
from allreadings.points import mixed
from allreadings.questions import ends, highest, is_least_peak, is_reach, least_peak, plain_ends, reach
from allreadings.worlds import readings_moved, world_moved
from tests.made import STRANGE, MadeWorlds, changed, exact, made_questions, with_bools, with_kinds

CART = (1, 2, [((-1,), 0)], [[((-1, 1), 2), ((1, -1), 0)]], [("a", (1,), (1, 1))])
HEARD = [("r", "a", 1, (5, 1))]
AGAINST = HEARD + [("s", "a", 0, (-9, 1))]
RISE = [(0, (-1,)), (1, (1,))]


def summed(rows, weights, many):
    """The sum of rows by weights, with Python's own fractions."""
    amounts = [exact(weight) for weight in weights]
    numbers = [sum(a * row[0][k] for a, row in zip(amounts, rows)) for k in range(many)]
    return min(amounts, default=0) >= 0 and numbers, sum(a * row[1] for a, row in zip(amounts, rows))


def is_right_end(world, readings, terms, supposed, sign, told):
    """Whether an end of a reach paper shows what it says, reckoned apart; sign is 1 for the greatest, -1 for the least."""
    many, rows = known_rows(world, readings, supposed=supposed)
    if told[0] == "endless":
        _, course, move = told
        worth = sum(number * a for moment, numbers in terms for number, a in zip(numbers, move[moment]))
        return (is_known(world, readings, course, supposed=supposed) and sign * worth > 0
                and is_known_move(world, readings, move, supposed=supposed))
    word, worth, course, weights = told
    if word != "at" or not is_known(world, readings, course, supposed=supposed) or form_worth(terms, course) != worth:
        return False
    expected = [sign * number for number in form_numbers(world, terms)], sign * exact(worth)
    return len(weights) == len(rows) and summed(rows, weights, many) == expected


class Reaches(unittest.TestCase):
    def test_made(self):
        words = {"clash": 0, "at": 0, "endless": 0}
        plain = 0
        for made, world, readings, terms, supposed in made_questions(141, 200):
            before = repr((world, readings, terms, supposed))
            paper = reach(world, readings, terms, supposed=supposed)
            told = ends(world, readings, terms, supposed=supposed)
            self.assertIs(is_reach(world, readings, terms, paper, supposed=supposed), True)
            course = known_course(world, readings, supposed=supposed)
            self.assertIs(told is None, course is None)
            self.assertIs(paper[0] == "clash", course is None)
            if course is None:
                words["clash"] += 1
                self.assertTrue(is_clash(known_rows(world, readings, supposed=supposed), paper[1]))
            else:
                for sign, end, worth in [(-1, paper[1], told[0]), (1, paper[2], told[1])]:
                    words[end[0]] += 1
                    self.assertTrue(is_right_end(world, readings, terms, supposed, sign, end))
                    self.assertEqual(worth, end[1] if end[0] == "at" else None)
                    if worth is not None:
                        self.assertIn(compare(form_worth(terms, course), worth), (0, -sign))
            if world[0] * world[1] <= 6:
                plain += 1
                self.assertEqual(plain_ends(world, readings, terms, supposed=supposed), told)
            if course is not None:
                opposed = [(moment, tuple(-number for number in numbers)) for moment, numbers in terms]
                turned = tuple(None if worth is None else (-worth[0], worth[1]) for worth in reversed(told))
                self.assertEqual(ends(world, readings, opposed, supposed=supposed), turned)
            self.assertEqual(ends(world, made.mixed_up(readings), terms, supposed=supposed), told)
            self.assertEqual(repr((world, readings, terms, supposed)), before)
        self.assertGreater(min(words.values()), 40, words)
        self.assertGreater(plain, 120)

    def test_no_terms(self):
        paper = reach(CART, HEARD, [])
        self.assertTrue(is_reach(CART, HEARD, [], paper))
        self.assertEqual([paper[1][:2], paper[2][:2]], [("at", (0, 1))] * 2)
        self.assertEqual((ends(CART, HEARD, []), plain_ends(CART, HEARD, [])), (((0, 1), (0, 1)),) * 2)
        self.assertIsNone(plain_ends(CART, AGAINST, []))
        self.assertEqual(reach(CART, AGAINST, [])[0], "clash")

    def test_ends_without_end(self):
        self.assertEqual(ends(CART, [], [(0, (1,))]), ((0, 1), None))
        self.assertEqual(ends(CART, [], [(0, (-2,))]), (None, (0, 1)))
        free = (2, 2, [], [[]], [])
        self.assertEqual((ends(free, [], [(1, (1, 2))]), plain_ends(free, [], [(1, (1, 2))])), ((None, None),) * 2)
        self.assertEqual(ends(free, [], [(1, (1, 2))], supposed=[([(1, (2, 4))], 3)]), (None, (3, 2)))
        self.assertEqual(ends(CART, [], RISE), ((0, 1), (2, 1)))

    def test_supposed_that_leave_no_course(self):
        for supposed in [[([], -1)], [([(0, (1,))], -1)], (([(0, (1,))], 3), ([(0, (-1,))], -4))]:
            self.assertEqual(reach(CART, HEARD, RISE, supposed=supposed)[0], "clash")
            self.assertIsNone(ends(CART, HEARD, RISE, supposed=supposed))
            self.assertIsNone(plain_ends(CART, HEARD, RISE, supposed=supposed))
            self.assertIsNone(highest(CART, HEARD, (1,), supposed=supposed))
            self.assertEqual(least_peak(CART, HEARD, (1,), supposed=supposed)[0], "clash")
        self.assertEqual(ends(CART, HEARD, RISE, supposed=[([], 0)]), ((0, 1), (2, 1)))

    def test_bounds_of_the_plain_way(self):
        for many, moments in [(1, 7), (2, 4)]:
            with self.assertRaises(TooMany) as caught:
                plain_ends((many, moments, [], [[]] * (moments - 1), []), [], [])
            self.assertEqual((caught.exception.what, caught.exception.limit), ("unknowns", 6))
        self.assertEqual(plain_ends((1, 6, [], [[]] * 5, []), [], [(5, (1,))]), (None, None))

    def test_rows_of_the_plain_way(self):
        made = MadeWorlds(15)
        bound = 0
        for _ in range(4):
            size = made.number(2, 9)
            steps = [[(tuple(number or 1 for number in made.numbers(4, size)), made.number(30, 120)) for _ in range(8)]
                     for _ in range(2)]
            start = [(made.direction(2), made.number(20, 80)) for _ in range(8)]
            world = (2, 3, start, steps, [])
            supposed = [([(moment, made.direction(2)) for moment in range(3)], made.number(20, 80)) for _ in range(4)]
            terms = [(moment, made.direction(2)) for moment in range(3)]
            told = ends(world, [], terms, supposed=supposed)
            self.assertTrue(is_reach(world, [], terms, reach(world, [], terms, supposed=supposed), supposed=supposed))
            try:
                self.assertEqual(plain_ends(world, [], terms, supposed=supposed), told)
            except TooMany as error:
                bound += 1
                self.assertEqual((error.what, error.limit), ("rows", 400))
        self.assertGreater(bound, 0)

    def test_by_name_alone(self):
        supposed = [(RISE, 1)]
        for call in [lambda: reach(CART, HEARD, RISE, supposed), lambda: ends(CART, HEARD, RISE, supposed),
                     lambda: plain_ends(CART, HEARD, RISE, supposed), lambda: highest(CART, HEARD, (1,), supposed),
                     lambda: least_peak(CART, HEARD, (1,), supposed),
                     lambda: is_reach(CART, HEARD, RISE, None, supposed),
                     lambda: is_least_peak(CART, HEARD, (1,), None, supposed)]:
            with self.assertRaises(TypeError):
                call()
        self.assertTrue(is_reach(world=CART, readings=HEARD, terms=RISE, supposed=supposed,
                                 value=reach(world=CART, readings=HEARD, terms=RISE, supposed=supposed)))


class ReachJudge(unittest.TestCase):
    CASES = [(CART, HEARD, RISE, ()), (CART, [], [(0, (1,))], [(RISE, 1)]), (CART, [], [(1, (-1,))], ()), (CART, AGAINST, RISE, ())]

    def test_any_value(self):
        for world, readings, terms, supposed in self.CASES:
            for value in STRANGE + [("reach",), ("reach", None, None), ("reach", (), ()), ("clash", None), ("reach", [], []),
                                    ("reach", ("at", (0, 1), [], []), ("at", (0, 1), [], [])), ("endless", [], []),
                                    ("reach", ("endless", [], []), ("endless", [], []))]:
                self.assertIs(is_reach(world, readings, terms, value, supposed=supposed), False, value)

    def test_one_place_changed(self):
        for world, readings, terms, supposed in self.CASES:
            paper = reach(world, readings, terms, supposed=supposed)
            self.assertIs(is_reach(world, readings, terms, paper, supposed=supposed), True)
            for other in [*with_bools(paper), *with_kinds(paper)]:
                self.assertIs(is_reach(world, readings, terms, other, supposed=supposed), False, other)
            for other in changed(paper):
                if is_reach(world, readings, terms, other, supposed=supposed):
                    if other[0] == "clash":
                        self.assertTrue(is_clash(known_rows(world, readings, supposed=supposed), other[1]))
                    else:
                        self.assertTrue(is_right_end(world, readings, terms, supposed, -1, other[1]), other)
                        self.assertTrue(is_right_end(world, readings, terms, supposed, 1, other[2]), other)

    def test_wrong_parts(self):
        paper = reach(CART, HEARD, RISE)
        _, low, high = paper
        looser = ("at", high[1], high[2], [(weight[0] + 1, 1) for weight in high[3]])
        for value in [("reach", high, low), ("reach", low, low), ("reach", high, high), ("reach", low, looser), ("reach", low),
                      ("reach", low, high, high), ["reach", low, high], ("clash", low[3]), ("reach", low, ("endless",) + high[2:]),
                      ("reach", low, ("endless", high[2], [(1,), (1,)])), ("reach", ("endless", low[2], [(1,), (1,)]), high)]:
            self.assertIs(is_reach(CART, HEARD, RISE, value), False, value)
        self.assertIs(is_reach(CART, HEARD, [(0, (1,))], paper), False)
        # What is endless upwards is shown by a move along which the form rises, and by no other one.
        paper = reach(CART, [], [(0, (1,))])
        course = paper[2][1]
        for move, expected in [([(1,), (1,)], True), ([(7,), (7,)], True), ([(0,), (0,)], False), ([(1,), (2,)], False),
                               ([(-1,), (-1,)], False)]:
            value = ("reach", paper[1], ("endless", course, move))
            self.assertIs(is_reach(CART, [], [(0, (1,))], value), expected)
        self.assertIs(is_reach(CART, [], [(0, (1,))], paper, supposed=[(RISE, 1)]), False)


class Highest(unittest.TestCase):
    def test_made(self):
        words = {"none": 0, "endless": 0, "worth": 0}
        for made, world, readings, terms, supposed in made_questions(142, 150):
            numbers = made.direction(world[0])
            told = highest(world, readings, numbers, supposed=supposed)
            each = [ends(world, readings, [(moment, numbers)], supposed=supposed) for moment in range(world[1])]
            if each[0] is None:
                words["none"] += 1
                self.assertIsNone(told)
            elif any(high is None for _, high in each):
                words["endless"] += 1
                self.assertEqual(told, (None, [high for _, high in each].index(None)))
            else:
                words["worth"] += 1
                highs = [high for _, high in each]
                self.assertEqual(told, (greatest(highs), highs.index(greatest(highs))))
        self.assertGreater(min(words.values()), 25, words)

    def test_ties(self):
        still = (1, 3, [((1,), 4)], [[((1, -1), 0), ((-1, 1), 0)]] * 2, [])
        self.assertEqual(highest(world=still, readings=[], numbers=(1,)), ((4, 1), 0))
        self.assertEqual(highest(still, [], (-1,)), (None, 0))
        self.assertEqual(highest(still, [], (1,), supposed=(([(2, (2,))], 5),)), ((5, 2), 0))
        later = (1, 3, [((1,), 4)], [[((-1, 1), 1)], [((-1, 1), 0)]], [])
        self.assertEqual(highest(later, [], (1,)), ((5, 1), 1))
        loose = (1, 3, [((1,), 4)], [[((-1, 1), 1)], []], [])
        self.assertEqual(highest(loose, [], (1,)), (None, 2))
        self.assertEqual(highest(loose, [], (-3,)), (None, 0))


class Peaks(unittest.TestCase):
    def is_right(self, world, readings, numbers, supposed, paper):
        """Whether a peak paper shows what it says, reckoned apart."""
        many, rows = known_rows(world, readings, supposed=supposed)
        if paper[0] == "clash":
            return is_clash((many, rows), paper[1])
        if paper[0] == "endless":
            _, course, move = paper
            worths = [sum(a * b for a, b in zip(numbers, step)) for step in move]
            return (is_known(world, readings, course, supposed=supposed) and max(worths) < 0
                    and is_known_move(world, readings, move, supposed=supposed))
        word, worth, course, shares, weights = paper
        if word != "peak" or not is_known(world, readings, course, supposed=supposed):
            return False
        if peak_worth(numbers, course) != worth:
            return False
        amounts = [exact(share) for share in shares]
        expected = [-number * share for share in amounts for number in numbers], -exact(worth)
        return (len(shares) == world[1] and len(weights) == len(rows) and min(amounts) >= 0 and sum(amounts) == 1
                and summed(rows, weights, many) == expected)

    def test_made(self):
        words = {"clash": 0, "peak": 0, "endless": 0}
        for made, world, readings, terms, supposed in made_questions(143, 200):
            numbers = made.direction(world[0])
            before = repr((world, readings, numbers, supposed))
            paper = least_peak(world, readings, numbers, supposed=supposed)
            words[paper[0]] += 1
            self.assertIs(is_least_peak(world, readings, numbers, paper, supposed=supposed), True)
            self.assertTrue(self.is_right(world, readings, numbers, supposed, paper))
            course = known_course(world, readings, supposed=supposed)
            self.assertIs(paper[0] == "clash", course is None)
            if paper[0] == "peak":
                for other in [course, [mixed(list(stands), [(1, 2), (1, 2)]) for stands in zip(course, paper[2])]]:
                    self.assertGreaterEqual(compare(peak_worth(numbers, other), paper[1]), 0)
                # No moment's form can be above the highest, nor the peak below any moment's least worth.
                for moment in range(world[1]):
                    low = ends(world, readings, [(moment, numbers)], supposed=supposed)[0]
                    self.assertTrue(low is None or compare(low, paper[1]) <= 0)
            self.assertEqual(repr((world, readings, numbers, supposed)), before)
        self.assertGreater(min(words.values()), 25, words)

    def test_moved_world(self):
        for made, world, readings, terms, supposed in made_questions(144, 30):
            numbers = made.direction(world[0])
            offset = made.numbers(world[0], 4)
            amount = sum(a * b for a, b in zip(numbers, offset))
            moved = world_moved(world, [offset] * world[1])
            one = least_peak(world, readings, numbers)
            other = least_peak(moved, readings_moved(world, readings, [offset] * world[1]), numbers)
            self.assertEqual(other[0], one[0])
            if one[0] == "peak":
                self.assertEqual(exact(other[1]), exact(one[1]) + amount)

    CASES = [(CART, HEARD, (1,), ()), (CART, HEARD, (-1,), [(RISE, 1)]), (CART, [], (-2,), ()), (CART, AGAINST, (1,), ())]

    def test_any_value(self):
        for world, readings, numbers, supposed in self.CASES:
            for value in STRANGE + [("peak",), ("peak", None, None, None, None), ("endless", None, None), ("endless", [], []),
                                    ("peak", (0, 1), [], [], []), ("clash", None), ("peak", [], [])]:
                self.assertIs(is_least_peak(world, readings, numbers, value, supposed=supposed), False, value)

    def test_one_place_changed(self):
        for world, readings, numbers, supposed in self.CASES:
            paper = least_peak(world, readings, numbers, supposed=supposed)
            self.assertIs(is_least_peak(world, readings, numbers, paper, supposed=supposed), True)
            for other in [*with_bools(paper), *with_kinds(paper)]:
                self.assertIs(is_least_peak(world, readings, numbers, other, supposed=supposed), False, other)
            for other in changed(paper):
                if is_least_peak(world, readings, numbers, other, supposed=supposed):
                    self.assertTrue(self.is_right(world, readings, numbers, supposed, other), other)

    def test_wrong_parts(self):
        word, worth, course, shares, weights = paper = least_peak(CART, HEARD, (1,))
        for value in [(word, worth, course, shares), paper + ([],), list(paper), (word, worth, course, shares[:1], weights),
                      (word, worth, course, list(reversed(shares)), weights), (word, worth, course, shares, weights[:-1]),
                      (word, (5, 1), course, shares, weights), (word, worth, [[(4, 1)], [(5, 1)]], shares, weights),
                      (word, worth, course, [(0, 1), (0, 1)], weights), ("clash", weights), ("endless", course, [(-1,), (-1,)]),
                      (word, worth, course, [(2, 1), (-1, 1)], weights)]:
            self.assertIs(is_least_peak(CART, HEARD, (1,), value), False, value)
        _, course, _ = least_peak(CART, [], (-2,))
        for move, expected in [([(1,), (1,)], True), ([(0,), (0,)], False), ([(1,), (2,)], False)]:
            self.assertIs(is_least_peak(CART, [], (-2,), ("endless", course, move)), expected)
        # The form has to fall at each moment.
        world = (1, 2, [((-1,), 0)], [[((0, -1), 0)]], [])
        course = [[(1, 1)], [(1, 1)]]
        self.assertIs(is_least_peak(world, [], (-1,), ("endless", course, [(1,), (1,)])), True)
        self.assertIs(is_least_peak(world, [], (-1,), ("endless", course, [(1,), (0,)])), False)

    def test_one_moment(self):
        world = (1, 1, [((-3,), -2)], [], [])
        paper = least_peak(world=world, readings=[], numbers=(5,))
        self.assertEqual(paper, ("peak", (10, 3), [[(2, 3)]], [(1, 1)], [(5, 3)]))


if __name__ == "__main__":
    unittest.main()
