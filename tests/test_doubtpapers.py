"""Spread papers and papers of sayings with doubted sensors, and their judges."""

import unittest

from allreadings.allrows import all_rows, at_moment
from allreadings.courses import set_at
from allreadings.doubted import said_in_doubt, spread
from allreadings.doubtpapers import is_saying_paper, is_spread_paper, saying_paper, spread_paper
from allreadings.errors import InvalidMany
from allreadings.meets import is_within
from allreadings.setpapers import is_set_paper, set_paper
from allreadings.shapes import is_shape
from tests.apart import check_refusals, keeps_apart, shows_clash, shows_row
from tests.made import STRANGE, changed, doubled, folded, with_bools, with_kinds
from tests.test_choosing import AGAINST, NOT_MOST, SIX, SIX_TOLD, STILL, TOLD, answers, blamed_apart, choices_apart
from tests.test_choosing import is_right_table, made_doubts
from tests.test_doubted import kept_by


def is_right_spread(world, readings, most, moment, shapes, value):
    """Whether a spread paper is as the document tells it, by words."""
    word, inside, table = value
    choices = choices_apart(world, min(most, len(world[4])))
    if word != "spread" or shapes != sorted(shapes) or len(inside) != len(shapes):
        return False
    for k, shape in enumerate(shapes):
        if not is_shape(shape) or shape[0] == "empty" or shape[1] != world[0]:
            return False
        if any(is_within(shape, other) for j, other in enumerate(shapes) if j != k):
            return False
        choice, paper = inside[k]
        if choice not in choices or not is_set_paper(world, kept_by(readings, choice), moment, shape, paper):
            return False
    told = [choice for choice, _, _ in table]
    if told != [choice for choice in choices if choice in told] or [] not in told:
        return False
    system = all_rows(world, readings)
    for choice, place, sums in table:
        if place is None:
            right = len(sums) == 1 and shows_clash(system, sums[0])
        else:
            rows = [(at_moment(world, moment, numbers), room) for numbers, room in shapes[place][2]]
            right = len(sums) == len(rows) and all(shows_row(system, row, weights) for row, weights in zip(rows, sums))
        blamed = {name for weights in sums for name in blamed_apart(world, readings, weights)} if right else set()
        if not right or blamed & set(choice):
            return False
        if len(choice) < most and any(sorted(choice + [name]) not in told for name in blamed):
            return False
    return True


class SpreadPapers(unittest.TestCase):
    def test_made(self):
        sizes = {}
        for made, world, readings in made_doubts(271, 90):
            before = repr((world, readings))
            moment = made.number(0, world[1] - 1)
            for most in range(3):
                shapes = spread(world, readings, most, moment)
                paper = spread_paper(world=world, readings=readings, most=most, moment=moment)
                self.assertIs(is_spread_paper(world, readings, most, moment, shapes, paper), True)
                self.assertTrue(is_right_spread(world, readings, most, moment, shapes, paper))
                sizes[len(shapes)] = sizes.get(len(shapes), 0) + 1
                others = [(readings, most + 1, moment), (readings[:-1], most, moment), (doubled(readings), most, moment)]
                for other_readings, other_most, other_moment in others:
                    taken = is_spread_paper(world, other_readings, other_most, other_moment, shapes, paper)
                    if taken:
                        self.assertEqual(spread(world, other_readings, other_most, other_moment), shapes)
                # Exactly the spread has a paper: other lists of shapes have none.
                for other in [shapes[:-1], shapes[1:], shapes[::-1], shapes + shapes[:1], shapes + [("empty", world[0])]]:
                    if other != shapes:
                        self.assertIs(is_spread_paper(world, readings, most, moment, other, paper), False)
            self.assertEqual(repr((world, readings)), before)
        self.assertGreater(min(sizes.get(0, 0), sizes.get(1, 0), sizes.get(2, 0)), 20, sizes)

    CASES = [(STILL, TOLD, 2, 0), (STILL, TOLD, 0, 1), (AGAINST, [("r", "a", 0, (1, 1))], 1, 1), (SIX, SIX_TOLD[:4], 2, 0),
             (STILL, [], 1, 0)]

    def test_changed(self):
        for world, readings, most, moment in self.CASES[:3]:
            shapes = spread(world, readings, most, moment)
            check_refusals(
                self, lambda value: is_spread_paper(world, readings, most, moment, shapes, value),
                spread_paper(world, readings, most, moment),
                lambda value: is_right_spread(world, readings, most, moment, shapes, value),
                [("spread", None, None), ("spread", [], []), ("spread", [], [None]), ("spread", [None], []), ("spread",),
                 ("spread", [([], None)], []), ("spread", [], [([], None, None)]), ("spread", [], [([], 0, [])])])

    def test_shapes_changed(self):
        for world, readings, most, moment in self.CASES:
            shapes, paper = spread(world, readings, most, moment), spread_paper(world, readings, most, moment)
            self.assertIs(is_spread_paper(world, readings, most, moment, shapes, paper), True)
            for other in [*STRANGE, *changed(shapes), *with_bools(shapes), *with_kinds(shapes), tuple(shapes), [shapes], shapes + [None]]:
                if other != shapes or type(other) is not list or repr(other) != repr(shapes):
                    self.assertIs(is_spread_paper(world, readings, most, moment, other, paper), False, other)
        for value in STRANGE:
            self.assertIs(is_spread_paper(STILL, TOLD, 2, 0, value, value), False)
            self.assertIs(is_spread_paper(STILL, TOLD, 2, 0, [value], ("spread", [([], value)], [])), False)
        self.assertIs(is_spread_paper(STILL, TOLD, 2, 0, [("empty", 1)] * 6000, ("spread", [], [])), False)

    def test_parts_left_out_put_in_and_exchanged(self):
        shapes, (word, inside, table) = spread(STILL, TOLD, 2, 0), spread_paper(STILL, TOLD, 2, 0)
        self.assertEqual((len(shapes), len(inside)), (2, 2))
        self.assertGreater(len(table), 2)
        values = [(word, inside[:1], table), (word, inside[::-1], table), (word, inside + inside[:1], table),
                  (word, [(inside[1][0], inside[0][1]), (inside[0][0], inside[1][1])], table), (word, inside, table[::-1]),
                  (word, inside, table[1:] + table[:1]), (word, inside, table + table[-1:]), (word, inside, []), ("spreads", inside, table)]
        values += [(word, inside, table[:k] + table[k + 1:]) for k in range(len(table))]
        for value in values:
            self.assertIs(is_spread_paper(STILL, TOLD, 2, 0, shapes, value), is_right_spread(STILL, TOLD, 2, 0, shapes, value))
        for value in values[:-len(table)]:
            self.assertIs(is_spread_paper(STILL, TOLD, 2, 0, shapes, value), False)
        for k, (choice, place, sums) in enumerate(table):
            for other in STRANGE:
                for told in [(other, place, sums), (choice, other, sums), (choice, place, other), other]:
                    if repr(told) != repr(table[k]):
                        self.assertIs(is_spread_paper(STILL, TOLD, 2, 0, shapes, (word, inside, table[:k] + [told] + table[k + 1:])), False)
            for other in (0, 1, None):
                value = (word, inside, table[:k] + [(choice, other, sums)] + table[k + 1:])
                self.assertIs(is_spread_paper(STILL, TOLD, 2, 0, shapes, value), is_right_spread(STILL, TOLD, 2, 0, shapes, value))

    def test_shapes_of_other_papers(self):
        """A shape that is no set, or that lies in another one of the list, makes a list of shapes no spread."""
        shapes, (word, inside, table) = spread(STILL, TOLD, 2, 0), spread_paper(STILL, TOLD, 2, 0)
        kept = kept_by(TOLD, ["b"])
        less = ("shape", 1, [((1,), 1)], [[(1, 1)]], [(-1,)])
        paper = set_paper(STILL, kept, 0)
        for others, told in [(sorted(shapes + [less]), inside + [(["b"], paper)]), ([less] + shapes, [(["b"], paper)] + inside)]:
            self.assertIs(is_spread_paper(STILL, TOLD, 2, 0, others, (word, told, table)), False)

    def test_sorted_once_and_not_empty(self):
        shapes, (word, inside, table) = spread(STILL, TOLD, 2, 0), spread_paper(STILL, TOLD, 2, 0)

        def placed(places):
            return [(choice, None if place is None else places[place], sums) for choice, place, sums in table]
        self.assertIs(is_spread_paper(STILL, TOLD, 2, 0, shapes, (word, inside, placed([0, 1]))), True)
        self.assertIs(is_spread_paper(STILL, TOLD, 2, 0, shapes[::-1], (word, inside[::-1], placed([1, 0]))), False)
        self.assertIs(is_spread_paper(STILL, TOLD, 2, 0, shapes[:1] + shapes, (word, inside[:1] + inside, placed([0, 2]))), False)
        # Where no choice fits, the spread is the empty list, and not the list of the empty set.
        word, inside, table = spread_paper(STILL, TOLD, 0, 0)
        self.assertEqual((inside, table[0][:2]), ([], ([], None)))
        self.assertIs(is_spread_paper(STILL, TOLD, 0, 0, [], (word, [], table)), True)
        empty = [([], ("clash", table[0][2][0]))]
        for told in [table, [([], 0, table[0][2])], [([], 0, [])]]:
            self.assertIs(is_spread_paper(STILL, TOLD, 0, 0, [("empty", 1)], (word, empty, told)), False)
        # A shape of the wrong number of unknowns.
        flat = ("shape", 2, [], [[(0, 1), (0, 1)]], [(-1, 0), (0, -1), (0, 1), (1, 0)])
        self.assertIs(is_spread_paper(STILL, [], 0, 0, [flat], (word, [([], ("set", [], [[[(0, 1)], [(0, 1)]]], []))], [([], 0, [])])), False)

    def test_one_in_another(self):
        """Sets of two choices of which one lies in the other one are no spread, though each has its paper."""
        world = (1, 1, [], [], [("a", (1,), (1, 1)), ("b", (1,), (2, 1))])
        readings = [("r", "a", 0, (0, 1)), ("s", "b", 0, (0, 1))]
        near, far = set_at(world, readings[:1], 0), set_at(world, readings[1:], 0)
        told = sorted([(near, (["b"], set_paper(world, readings[:1], 0))), (far, (["a"], set_paper(world, readings[1:], 0)))])
        shapes, inside = [shape for shape, _ in told], [pair for _, pair in told]
        self.assertEqual(spread(world, readings, 1, 0), [far])
        word, alone, table = spread_paper(world, readings, 1, 0)
        place = shapes.index(far)
        moved = [(choice, place, sums) for choice, _, sums in table]
        self.assertIs(is_spread_paper(world, readings, 1, 0, [far], (word, alone, table)), True)
        self.assertIs(is_spread_paper(world, readings, 1, 0, shapes, (word, inside, moved)), False)

    def test_whole_plane_and_no_rows(self):
        told = spread_paper(SIX, SIX_TOLD, 6, 0)
        shapes = spread(SIX, SIX_TOLD, 6, 0)
        self.assertEqual((told[2][0][0], told[2][0][2] in ([], told[2][0][2])), ([], True))
        self.assertIs(is_spread_paper(SIX, SIX_TOLD, 6, 0, shapes, told), True)
        # A shape without rows holds each set: no weights are needed, and nobody is blamed.
        self.assertIs(is_spread_paper(SIX, SIX_TOLD, 6, 0, shapes, (told[0], told[1], [([], 0, [])])), True)
        self.assertIs(is_spread_paper(SIX, SIX_TOLD, 5, 0, shapes, (told[0], told[1], [([], 0, [])])), False)

    def test_no_bound_on_rows(self):
        world, readings = folded()
        for most in (0, 1):
            shapes, paper = spread(world, readings, most, 0), spread_paper(world, readings, most, 0)
            self.assertIs(is_spread_paper(world, readings, most, 0, shapes, paper), True)


def is_right_saying(world, readings, most, row, value):
    """Whether a paper of a saying is as the document tells it, by words."""
    plain = (most, [], [], [])
    if value[0] == "none":
        return is_right_table(world, readings, plain, None, value[1])
    if not answers(world, readings, plain, value[-2], value[-1]):
        return False
    if value[0] == "surely":
        return len(value) == 4 and is_right_table(world, readings, plain, row, value[1])
    if value[0] == "never":
        return len(value) == 4 and is_right_table(world, readings, (most, [], [], [row]), None, value[1])
    if value[0] != "perhaps" or not answers(world, readings, plain, value[1], value[2]):
        return False
    return keeps_apart(row, value[2]) and not keeps_apart(row, value[4])


class SayingPapers(unittest.TestCase):
    def test_made(self):
        words = {"none": 0, "surely": 0, "never": 0, "perhaps": 0}
        for made, world, readings in made_doubts(272, 150):
            size = world[0] * world[1]
            row = made.row(size, 1)
            row = (row[0], row[1] + made.one_of([0, 0, 7, -7]))
            before = repr((world, readings, row))
            for most in range(3):
                paper = saying_paper(world=world, readings=readings, most=most, row=row)
                words[paper[0]] += 1
                self.assertEqual(paper[0], said_in_doubt(world, readings, most, row))
                self.assertTrue(is_right_saying(world, readings, most, row, paper), paper)
                self.assertIs(is_saying_paper(world, readings, most, row, paper), True)
                other = (row[0], row[1] + made.one_of([-8, 8]))
                taken = is_saying_paper(world, readings, most, other, paper)
                self.assertTrue(not taken or said_in_doubt(world, readings, most, other) == paper[0])
            self.assertEqual(repr((world, readings, row)), before)
        self.assertGreater(min(words.values()), 20, words)

    CASES = [(STILL, TOLD, 0, ((0, 1), 0)), (STILL, TOLD, 1, ((0, 1), 0)), (STILL, TOLD, 1, ((0, 1), 2)), (STILL, TOLD, 2, ((0, 1), 1)),
             (AGAINST, [], 1, ((0, 0), 0)), (STILL, TOLD, 1, ((0, 0), -1))]

    def test_changed(self):
        for world, readings, most, row in self.CASES:
            check_refusals(
                self, lambda value: is_saying_paper(world, readings, most, row, value), saying_paper(world, readings, most, row),
                lambda value: is_right_saying(world, readings, most, row, value),
                [("none", None), ("none", [None]), ("surely", [], [], []), ("never", None, None, None), ("perhaps", [], [], [], []),
                 ("perhaps", None, None, None, None), ("none",), ("surely",), ("never", [], ["b"], []), ("none", [([], [])])])

    def test_words_exchanged(self):
        none, never, surely, perhaps, _, _ = [saying_paper(*case) for case in self.CASES]
        self.assertEqual([none[0], never[0], surely[0], perhaps[0]], ["none", "never", "surely", "perhaps"])
        for case, paper in zip(self.CASES, [none, never, surely, perhaps]):
            for word in ("none", "never", "surely", "perhaps"):
                value = (word,) + paper[1:]
                self.assertIs(is_saying_paper(*case, value), word == paper[0])
        turned = (perhaps[0],) + perhaps[3:] + perhaps[1:3]
        self.assertIs(is_saying_paper(*self.CASES[3], turned), False)
        course = [[(1, 1)], [(1, 1)]]
        self.assertIs(is_saying_paper(*self.CASES[2], surely[:2] + (["b"], course)), True)
        self.assertIs(is_saying_paper(*self.CASES[2], surely[:2] + (["a"], course)), False)
        self.assertIs(is_saying_paper(*self.CASES[2], surely[:2] + (["a", "b"], course)), False)

    def test_most(self):
        for most in NOT_MOST:
            for call in [lambda: saying_paper(STILL, TOLD, most, ((0, 1), 0)), lambda: is_saying_paper(STILL, TOLD, most, ((0, 1), 0), None),
                         lambda: spread_paper(STILL, TOLD, most, 0), lambda: is_spread_paper(STILL, TOLD, most, 0, None, None)]:
                with self.assertRaises(InvalidMany) as caught:
                    call()
                self.assertIs(caught.exception.value, most)


if __name__ == "__main__":
    unittest.main()
