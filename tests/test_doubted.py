"""Standings of sensors, spreads by both ways, and sayings, where some sensors may be wrong."""

import unittest

from allreadings.allrows import at_moment
from allreadings.courses import course_of, set_at
from allreadings.doubted import said_in_doubt, sensor_papers, sensor_standing, spread, spread_by_size
from allreadings.errors import InvalidMany, MissingMoment, TooMany
from allreadings.everywhere import set_everywhere
from allreadings.linears import known_course
from allreadings.meets import contains, is_within
from allreadings.questions import ends
from allreadings.shapes import is_shape
from allreadings.choosing import is_choice_paper
from tests.made import doubled, exact, folded
from tests.test_choosing import AGAINST, NOT_MOST, SIX, SIX_TOLD, STILL, TOLD, choices_apart, made_doubts


def kept_by(readings, choice):
    return [reading for reading in readings if reading[1] not in choice]


def fitting_apart(world, readings, most):
    """The fitting choices, by words."""
    choices = choices_apart(world, min(most, len(world[4])))
    return [choice for choice in choices if course_of(world, kept_by(readings, choice)) is not None]


def spread_apart(world, readings, most, moment):
    """The spread, by words, from the sets as meets."""
    shapes = []
    for choice in fitting_apart(world, readings, most):
        shape = set_everywhere(world, kept_by(readings, choice), moment)
        if shape not in shapes:
            shapes.append(shape)
    return sorted(shape for shape in shapes if not any(other != shape and is_within(shape, other) for other in shapes))


class Standings(unittest.TestCase):
    def test_made(self):
        words = {"none": 0, "wrong": 0, "right": 0, "open": 0}
        for made, world, readings in made_doubts(261, 120):
            for most in (0, 1, 2, made.number(3, 6)):
                right = fitting_apart(world, readings, most)
                for name, _, _ in world[4]:
                    told = sensor_standing(world=world, readings=readings, most=most, sensor=name)
                    held = [name in choice for choice in right]
                    expected = "none" if not right else "wrong" if all(held) else "open" if any(held) else "right"
                    self.assertEqual(told, expected)
                    words[told] += 1
                    papers = sensor_papers(world=world, readings=readings, most=most, sensor=name)
                    self.assertEqual((type(papers), len(papers)), (tuple, 2))
                    self.assertIs(is_choice_paper(world, readings, most, [], [name], [], papers[0]), True)
                    self.assertIs(is_choice_paper(world, readings, most, [name], [], [], papers[1]), True)
                    kinds = {("bar", "choice"): "wrong", ("choice", "bar"): "right", ("choice", "choice"): "open", ("bar", "bar"): "none"}
                    self.assertEqual(kinds[papers[0][0], papers[1][0]], expected)
        self.assertGreater(min(words.values()), 15, words)

    def test_edges(self):
        self.assertEqual([sensor_standing(STILL, TOLD, most, "b") for most in range(4)], ["none", "wrong", "open", "open"])
        self.assertEqual([sensor_standing(STILL, TOLD, most, "c") for most in range(4)], ["none", "right", "open", "open"])
        self.assertEqual([sensor_standing(AGAINST, [], most, "a") for most in (0, 1, 6)], ["none"] * 3)
        self.assertEqual([sensor_standing(STILL, [], most, "a") for most in (0, 1)], ["right", "open"])
        self.assertEqual(sensor_papers(STILL, TOLD, 0, "b")[1], ("bar", []))
        self.assertEqual([sensor_standing(SIX, SIX_TOLD, most, "a") for most in (3, 4, 6)], ["none", "open", "open"])


class Spreads(unittest.TestCase):
    def test_made(self):
        sizes = {}
        for made, world, readings in made_doubts(262, 120):
            before = repr((world, readings))
            moment = made.number(0, world[1] - 1)
            last = None
            for most in range(4):
                told = spread(world=world, readings=readings, most=most, moment=moment)
                self.assertEqual(told, spread_apart(world, readings, most, moment))
                self.assertEqual(spread_by_size(world=world, readings=readings, most=most, moment=moment), told)
                self.assertTrue(all(is_shape(shape) and shape[0] == "shape" for shape in told))
                if last is not None:
                    self.assertTrue(all(any(is_within(shape, other) for other in told) for shape in last))
                last = told
                sizes[len(told)] = sizes.get(len(told), 0) + 1
                self.check_stands(made, world, readings, most, moment, told)
                self.assertEqual(spread_by_size(world, made.mixed_up(readings), most, moment), told)
                self.assertEqual(spread(world, doubled(readings), most, moment), told)
            self.assertEqual(repr((world, readings)), before)
        self.assertGreater(min(sizes.get(0, 0), sizes.get(1, 0), sizes.get(2, 0)), 25, sizes)
        self.assertGreater(max(sizes), 2)

    def check_stands(self, made, world, readings, most, moment, told):
        """A stand is in one of the shapes exactly if all but at most so many sensors allow a course with it."""
        for shape in told[:1]:
            self.assertTrue(contains(shape, shape[3][0]))
        stand = made.point(world[0], 3)
        pins = [([(moment, tuple(sign * below if k == place else 0 for k in range(world[0])))], sign * above)
                for place, (above, below) in enumerate(stand) for sign in (1, -1)]
        through = any(known_course(world, kept_by(readings, choice), supposed=pins) is not None
                      for choice in choices_apart(world, min(most, len(world[4]))))
        self.assertIs(any(contains(shape, stand) for shape in told), through)

    def test_nothing_doubted(self):
        for _, world, readings in made_doubts(263, 30):
            if world[0] * world[1] <= 6:
                shape = set_at(world, readings, 0)
                self.assertEqual(spread(world, readings, 0, 0), [] if shape[0] == "empty" else [shape])

    def test_equal_and_contained(self):
        # Without a, or without b, the same is left; without c more than that.
        world = (1, 1, [((1,), 9), ((-1,), 9)], [], [("a", (1,), (1, 1)), ("b", (1,), (1, 1)), ("c", (1,), (3, 1))])
        readings = [("r1", "a", 0, (0, 1)), ("r2", "b", 0, (0, 1)), ("r3", "c", 0, (0, 1))]
        ones = [(sign * 1, 1) for sign in (-1, 1)]
        self.assertEqual([shape[3] for shape in spread(world, readings, 1, 0)], [[[a] for a in ones]])
        self.assertEqual([shape[3] for shape in spread(world, readings, 2, 0)], [[[(-3, 1)], [(3, 1)]]])
        self.assertEqual([shape[3] for shape in spread(world, readings, 6, 0)], [[[(-9, 1)], [(9, 1)]]])
        self.assertEqual([shape[2] for shape in spread(STILL, TOLD, 2, 0)], [[((-1,), -3), ((1,), 5)], [((-1,), 1), ((1,), 1)]])
        self.assertEqual([len(spread(SIX, SIX_TOLD, most, 0)) for most in range(7)], [0, 0, 0, 0, 3, 3, 1])
        self.assertEqual(spread(SIX, SIX_TOLD, 6, 0), [("shape", 1, [], [[(0, 1)]], [(-1,), (1,)])])
        self.assertEqual([spread(AGAINST, [], most, 1) for most in (0, 6)], [[], []])
        self.assertEqual(spread_by_size(AGAINST, [("r", "a", 0, (1, 1))], 6, 1), [])
        self.assertEqual(spread_by_size((1, 1, [((1,), 0)], [], []), [], 3, 0), [("shape", 1, [((1,), 0)], [[(0, 1)]], [(-1,)])])

    def test_wrong_arguments(self):
        for most in NOT_MOST:
            for call in [lambda: spread(STILL, TOLD, most, 9), lambda: spread_by_size(STILL, TOLD, most, 9),
                         lambda: sensor_standing(STILL, TOLD, most, "b"), lambda: sensor_papers(STILL, TOLD, most, "b"),
                         lambda: said_in_doubt(STILL, TOLD, most, ((0, 1), 0))]:
                with self.assertRaises(InvalidMany) as caught:
                    call()
                self.assertIs(caught.exception.value, most)
        for function in (spread, spread_by_size):
            with self.assertRaises(MissingMoment):
                function(STILL, TOLD, 1, 2)

    def test_no_bound_on_rows(self):
        """The sets are told where stepping from shape to shape would raise TooMany."""
        world, readings = folded()
        with self.assertRaises(TooMany):
            set_everywhere(world, readings, 0)
        for most in (0, 1):
            shapes = spread(world, readings, most, 0)
            self.assertEqual(shapes, spread_by_size(world, readings, most, 0))
            self.assertEqual(len(shapes), most + 1)
            self.assertTrue(all(len(shape[3]) == 2 for shape in shapes))


class Sayings(unittest.TestCase):
    def test_made(self):
        words = {"none": 0, "surely": 0, "never": 0, "perhaps": 0}
        for made, world, readings in made_doubts(264, 200):
            size = world[0] * world[1]
            row = made.row(size, 1)
            row = (row[0], row[1] + made.one_of([0, 0, 6, -6]))
            if made.number(0, 3) == 0:
                row = (at_moment(world, 0, made.direction(world[0])), row[1])
            linear = (terms_of(world, row[0]), row[1])
            for most in range(3):
                told = said_in_doubt(world=world, readings=readings, most=most, row=row)
                words[told] += 1
                kept = [kept_by(readings, choice) for choice in fitting_apart(world, readings, most)]
                highs = [ends(world, one, linear[0])[1] for one in kept]
                surely = all(high is not None and exact(high) <= row[1] for high in highs)
                never = all(known_course(world, one, supposed=[linear]) is None for one in kept)
                self.assertEqual(told, "none" if not kept else "surely" if surely else "never" if never else "perhaps")
        self.assertGreater(min(words.values()), 30, words)

    def test_edges(self):
        self.assertEqual([said_in_doubt(STILL, TOLD, 1, ((0, 1), most)) for most in (0, 1, 2)], ["never", "surely", "surely"])
        self.assertEqual([said_in_doubt(STILL, TOLD, 2, ((0, 1), most)) for most in (-2, -1, 4, 5)], ["never", "perhaps", "perhaps", "surely"])
        self.assertEqual([said_in_doubt(STILL, TOLD, 3, ((0, 0), most)) for most in (-1, 0, 1)], ["never", "surely", "surely"])
        self.assertEqual(said_in_doubt(STILL, TOLD, 0, ((0, 0), 0)), "none")
        self.assertEqual(said_in_doubt(AGAINST, [], 6, ((0, 0), 0)), "none")
        self.assertEqual(said_in_doubt(STILL, TOLD, 3, ((1, 0), 99)), "perhaps")


def terms_of(world, numbers):
    many = world[0]
    parts = [(moment, tuple(numbers[many * moment:many * (moment + 1)])) for moment in range(world[1])]
    return [part for part in parts if any(part[1])]


if __name__ == "__main__":
    unittest.main()
