"""Choices of sensors taken as wrong: which fit, blame, tables, choice papers and their judges."""

import unittest
from itertools import combinations

from allreadings.allrows import all_rows
from allreadings.choosing import all_choices, blamed_sensors, choice_paper, fits, fitting_by_least, fitting_choices, is_choice
from allreadings.choosing import is_choice_paper, is_table, kept_readings, least_choices, least_wrong
from allreadings.courses import clash_of_all, course_of
from allreadings.errors import AskedBothWays, InvalidMany
from allreadings.greatest import follow_of
from allreadings.solving import point_of
from tests.apart import allows_apart, check_refusals, keeps_apart, shows_clash, shows_row
from tests.made import BIG, STRANGE, MadeWorlds, exact, made_conflicts, told, with_bools, with_kinds

STILL = (1, 2, [], [[((1, -1), 0), ((-1, 1), 0)]], [("a", (1,), (1, 1)), ("b", (1,), (1, 1)), ("c", (1,), (0, 1))])
TOLD = [("r1", "a", 0, (0, 1)), ("r2", "b", 1, (4, 1)), ("r3", "c", 1, (1, 1))]
AGAINST = (1, 2, [((1,), -1), ((-1,), 0)], [[]], [("b", (1,), (1, 1)), ("a", (1,), (1, 1))])
SIX = (1, 1, [], [], [(name, (1,), (0, 1)) for name in "fbdace"])
SIX_TOLD = [("r" + name, name, 0, (k // 2, 1)) for k, name in enumerate("abcdef")]
NOT_MOST = [-1, 7, BIG, True, False, None, "1", (1, 1), [1], (), []]


def made_doubts(seed, count, sensors=4):
    """Worlds with up to so many sensors, with readings of which some are at odds."""
    made = MadeWorlds(seed)
    yield from ((made, STILL, TOLD), (made, AGAINST, [("r", "a", 0, (1, 1))]), (made, SIX, SIX_TOLD[:4]), (made, STILL, []))
    for _ in range(count):
        many, moments, start, steps, _ = made.world(moments=made.number(1, 3))
        names = made.mixed_up(["a", "b", "c2", "d", "e"])[:made.number(0, sensors)]
        world = (many, moments, start, steps, [(name, made.direction(many), made.one_of([(0, 1), (1, 1), (1, 2)])) for name in names])
        readings = made.readings(world, made.number(0, 6)) if names else []
        if made.number(0, 2) == 0:
            # Sensors that all tell the same number, but of unlike worths.
            steps = [[((1,) + (0,) * (many - 1) + (-1,) + (0,) * (many - 1), 0), ((-1,) + (0,) * (many - 1) + (1,) + (0,) * (many - 1), 0)]
                     for _ in range(moments - 1)]
            world = (many, moments, [], steps, [(name, (1,) + (0,) * (many - 1), (made.number(0, 2), 1)) for name in names])
            readings = [("r" + name, name, made.number(0, moments - 1), (made.number(-3, 9), 1)) for name in names]
        for k in range(len(readings)):
            if made.number(0, 2) == 0:
                label, name, moment, worth = readings[k]
                readings[k] = (label, name, moment, told(exact(worth) + made.number(-5, 5)))
        yield made, world, readings


def choices_apart(world, most):
    names = sorted(sensor[0] for sensor in world[4])
    return [list(choice) for size in range(most + 1) for choice in combinations(names, size)]


def made_question(made, world):
    """A question: most, must, never, rows."""
    names = sorted(sensor[0] for sensor in world[4])
    must = [name for name in names if made.number(0, 5) == 0]
    never = [name for name in names if name not in must and made.number(0, 4) == 0]
    size = world[0] * world[1]
    return made.number(0, 4), must, never, [made.row(size, 2) for _ in range(made.one_of([0, 0, 1, 2, 8]))]


def question_rows(world, readings, rows):
    many, known = all_rows(world, readings)
    return many, known + rows


def answers(world, readings, question, choice, course):
    """Whether a choice answers a question by a course, by words."""
    most, must, never, rows = question
    kept = [reading for reading in readings if reading[1] not in choice]
    return (len(choice) <= most and set(must) <= set(choice) and not set(never) & set(choice)
            and allows_apart(world, kept, course) and all(keeps_apart(row, course) for row in rows))


def blamed_apart(world, readings, weights):
    ahead = len(all_rows(world, [])[1])
    pairs = [(reading[1], weights[ahead + 2 * k:ahead + 2 * k + 2]) for k, reading in enumerate(readings)]
    return {name for name, two in pairs if any(weight[0] > 0 for weight in two)}


def is_right_table(world, readings, question, goal, value):
    """Whether a table is as the document tells it, by words."""
    most, must, never, rows = question
    choices = [choice for choice, _ in value]
    allowed = [choice for choice in choices_apart(world, min(most, len(world[4])))
               if set(must) <= set(choice) and not set(never) & set(choice)]
    if len(must) > most:
        return value == []
    if choices != [choice for choice in allowed if choice in choices] or must not in choices:
        return False
    system = question_rows(world, readings, rows)
    for choice, weights in value:
        if not (shows_clash(system, weights) or (goal is not None and shows_row(system, goal, weights))):
            return False
        blamed = blamed_apart(world, readings, weights)
        if blamed & set(choice):
            return False
        if len(choice) < most and any(sorted(choice + [name]) not in choices for name in blamed - set(never)):
            return False
    return True


class Choices(unittest.TestCase):
    def test_is_choice(self):
        for choice in choices_apart(STILL, 3):
            self.assertIs(is_choice(world=STILL, value=choice), True)
            for other in [*with_bools(choice), *with_kinds(choice)]:
                self.assertIs(is_choice(STILL, other), False, other)
        for value in STRANGE + [["d"], ["b", "a"], ["a", "a"], ["a", "d"], [["a"]], ["a", None], ["a", 1], "a", "abc", ("a",), [True]]:
            self.assertIs(is_choice(STILL, value), value == [] and isinstance(value, list), value)
        self.assertEqual([is_choice(AGAINST, value) for value in [["a", "b"], ["b", "a"]]], [True, False])
        self.assertEqual([is_choice((1, 1, [], [], []), value) for value in [[], ["a"]]], [True, False])

    def test_all_choices(self):
        self.assertEqual(all_choices(world=STILL, most=1), [[], ["a"], ["b"], ["c"]])
        self.assertEqual(all_choices(STILL, 2), [[], ["a"], ["b"], ["c"], ["a", "b"], ["a", "c"], ["b", "c"]])
        self.assertEqual([len(all_choices(SIX, most)) for most in range(7)], [1, 7, 22, 42, 57, 63, 64])
        self.assertEqual(all_choices(SIX, 6), choices_apart(SIX, 6))
        self.assertEqual(all_choices(AGAINST, 6), [[], ["a"], ["b"], ["a", "b"]])
        self.assertEqual(all_choices((1, 1, [], [], []), 3), [[]])

    def test_bounds_of_most(self):
        zeros = [(0, 1)] * 8
        for most in NOT_MOST:
            for call in [lambda: all_choices(STILL, most), lambda: fitting_choices(STILL, TOLD, most),
                         lambda: fitting_by_least(STILL, TOLD, most), lambda: choice_paper(STILL, TOLD, most, [], [], []),
                         lambda: is_table(STILL, TOLD, most, ["a"], ["a"], [], None, [([], zeros)]),
                         lambda: is_choice_paper(STILL, TOLD, most, ["a"], ["a"], [], None),
                         lambda: choice_paper(STILL, TOLD, most, ["b"], ["a", "b"], [])]:
                with self.assertRaises(InvalidMany) as caught:
                    call()
                self.assertIs(caught.exception.value, most)

    def test_asked_both_ways(self):
        for call in [lambda: choice_paper(STILL, TOLD, 0, ["a", "b", "c"], ["b", "c"], []),
                     lambda: is_table(STILL, TOLD, 6, ["a", "b", "c"], ["b", "c"], [], None, []),
                     lambda: is_choice_paper(STILL, TOLD, 3, ["b", "c"], ["a", "b", "c"], [], None)]:
            with self.assertRaises(AskedBothWays) as caught:
                call()
            self.assertEqual(caught.exception.name, "b")

    def test_kept(self):
        self.assertEqual(kept_readings(readings=TOLD, choice=["a", "c"]), [TOLD[1]])
        self.assertEqual([kept_readings(TOLD, []), kept_readings([], ["a"])], [TOLD, []])

    def test_blamed(self):
        noughts, one = [(0, 1)] * 8, [(1, 3)]
        self.assertEqual(blamed_sensors(world=STILL, readings=TOLD, weights=noughts), [])
        for place, expected in [(0, []), (1, []), (2, ["a"]), (3, ["a"]), (4, ["b"]), (5, ["b"]), (6, ["c"]), (7, ["c"])]:
            self.assertEqual(blamed_sensors(STILL, TOLD, noughts[:place] + one + noughts[place + 1:]), expected)
        self.assertEqual(blamed_sensors(STILL, TOLD, one * 8 + one * 3), ["a", "b", "c"])
        self.assertEqual(blamed_sensors(STILL, TOLD, noughts + one * 8), [])
        again = [TOLD[1], TOLD[0], ("r4", "b", 0, (0, 1))]
        self.assertEqual(blamed_sensors(STILL, again, noughts[:6] + one * 2), ["b"])
        self.assertEqual(blamed_sensors(STILL, again, noughts[:4] + one * 4), ["a", "b"])


class Fitting(unittest.TestCase):
    def test_made(self):
        counts = {"none": 0, "all": 0, "one": 0, "more": 0}
        for made, world, readings in made_doubts(251, 120):
            before = repr((world, readings))
            names = len(world[4])
            right = [choice for choice in choices_apart(world, names)
                     if course_of(world, [reading for reading in readings if reading[1] not in choice]) is not None]
            least = [choice for choice in right if not any(set(other) < set(choice) for other in right)]
            for choice in choices_apart(world, names):
                self.assertIs(fits(world=world, readings=readings, choice=choice), choice in right)
                self.assertIs(choice in right, any(set(other) <= set(choice) for other in least))
            for most in range(7):
                expected = [choice for choice in right if len(choice) <= most]
                self.assertEqual(fitting_choices(world=world, readings=readings, most=most), expected)
                self.assertEqual(fitting_by_least(world=world, readings=readings, most=most), expected)
            self.assertEqual(least_choices(world=world, readings=readings), least)
            self.assertEqual(least_wrong(world=world, readings=readings), len(least[0]) if least else None)
            self.assertEqual(least_choices(world, made.mixed_up(readings)), least)
            if course_of(world, []) is None:
                self.assertEqual((right, least), ([], []))
            else:
                self.assertIn(sorted(sensor[0] for sensor in world[4]), right)
            clash = clash_of_all(world, readings)
            if clash is not None:
                blamed = blamed_sensors(world, readings, clash)
                self.assertEqual(set(blamed), blamed_apart(world, readings, clash))
                self.assertTrue(all(set(blamed) & set(choice) for choice in right))
            self.assertEqual(repr((world, readings)), before)
            counts["none" if not least else "all" if least == [[]] else "one" if len(least) == 1 else "more"] += 1
        self.assertGreater(min(counts.values()), 2, counts)

    def test_six(self):
        # Three pairs of sensors tell three unlike worths: two pairs must be wrong.
        self.assertEqual(least_choices(SIX, SIX_TOLD), [["a", "b", "c", "d"], ["a", "b", "e", "f"], ["c", "d", "e", "f"]])
        self.assertEqual(least_wrong(SIX, SIX_TOLD), 4)
        self.assertEqual([len(fitting_choices(SIX, SIX_TOLD, most)) for most in range(7)], [0, 0, 0, 0, 3, 9, 10])

    def test_edges(self):
        self.assertEqual([least_choices(STILL, []), least_wrong(STILL, [])], [[[]], 0])
        self.assertEqual([least_choices(AGAINST, []), least_wrong(AGAINST, []), fitting_choices(AGAINST, [], 6)], [[], None, []])
        bare = (1, 1, [], [], [])
        self.assertEqual([least_choices(bare, []), fitting_by_least(bare, [], 6)], [[[]], [[]]])
        # A sensor without readings is never in a least choice.
        self.assertEqual(least_choices(STILL, TOLD[:2]), [["a"], ["b"]])


class Tables(unittest.TestCase):
    def test_made(self):
        counts = {"choice": 0, "bar": 0, "most": 0}
        for made, world, readings in made_doubts(252, 250):
            question = most, must, never, rows = made_question(made, world)
            before = repr((world, readings, question))
            paper = choice_paper(world=world, readings=readings, most=most, must=must, never=never, rows=rows)
            self.assertIs(is_choice_paper(world, readings, most, must, never, rows, paper), True)
            counts[paper[0]] += 1
            size = len(world[4])
            system = question_rows(world, readings, rows)
            open_ones = []
            for choice in choices_apart(world, min(most, size)):
                if set(must) <= set(choice) and not set(never) & set(choice):
                    kept = question_rows(world, [one for one in readings if one[1] not in choice], rows)
                    if point_of(kept) is not None:
                        open_ones.append(choice)
            if paper[0] == "choice":
                self.assertTrue(answers(world, readings, question, paper[1], paper[2]))
                self.assertIn(paper[1], open_ones)
            else:
                self.assertEqual(open_ones, [])
                self.assertTrue(is_right_table(world, readings, question, None, paper[1]))
                self.assertIs(is_table(world, readings, most, must, never, rows, None, paper[1]), True)
                self.assertIs(is_table(world, readings, most, must, never, rows, made.row(system[0]), paper[1]), True)
                if len(must) > most:
                    counts["most"] += 1
                    self.assertEqual(paper, ("bar", []))
            self.assertEqual(repr((world, readings, question)), before)
        self.assertGreater(min(counts.values()), 10, counts)

    def test_goals(self):
        """A table for a goal, made by words: each choice has weights by which the goal follows, or a clash."""
        count = refused = 0
        for made, world, readings in made_doubts(253, 80, 3):
            most, must, never, rows = question = made_question(made, world)
            if len(must) > most:
                continue
            goal = made.row(world[0] * world[1], 1)
            goal = (goal[0], goal[1] + made.number(0, 6))
            table = self.full_table(world, readings, question, goal)
            if table is None:
                continue
            count += 1
            self.assertTrue(is_right_table(world, readings, question, goal, table))
            self.assertIs(is_table(world, readings, most, must, never, rows, goal, table), True)
            less = (goal[0], goal[1] - 40)
            told = is_table(world, readings, most, must, never, rows, less, table)
            self.assertIs(told, is_right_table(world, readings, question, less, table))
            refused += not told
            for k in range(len(table)):
                for other in [table[:k] + table[k + 1:], table[:k] + [table[k]] + table[k:]]:
                    self.assertIs(is_table(world, readings, most, must, never, rows, goal, other),
                                  is_right_table(world, readings, question, goal, other))
        self.assertGreater(count, 20)
        self.assertGreater(refused, 5)

    def full_table(self, world, readings, question, goal):
        """A table with a tuple for each choice that the question lets stand; None if the goal does not follow."""
        most, must, never, rows = question
        many, told = question_rows(world, readings, rows)
        ahead = len(all_rows(world, [])[1])
        table = []
        for choice in choices_apart(world, min(most, len(world[4]))):
            if not set(must) <= set(choice) or set(never) & set(choice):
                continue
            places = [k for k in range(len(told)) if not (ahead <= k < ahead + 2 * len(readings)
                                                          and readings[(k - ahead) // 2][1] in choice)]
            kept = (many, [told[k] for k in places])
            weights = follow_of(kept, ((0,) * many, -1))
            weights = follow_of(kept, goal) if weights is None else weights
            if weights is None:
                return None
            spread = [(0, 1)] * len(told)
            for k, weight in zip(places, weights):
                spread[k] = weight
            table.append((choice, spread))
        return table

    def test_must_with_more_names_than_most(self):
        for value in STRANGE + [[([], [(0, 1)] * 8)], [(["a", "b"], [(0, 1)] * 8)]]:
            for goal in (None, ((1, 1), 9)):
                expected = value == [] and isinstance(value, list)
                self.assertIs(is_table(STILL, TOLD, 1, ["a", "b"], [], [], goal, value), expected, value)
        self.assertEqual(choice_paper(STILL, TOLD, 0, ["a"], [], []), ("bar", []))
        self.assertIs(is_choice_paper(STILL, TOLD, 0, ["a"], [], [], ("bar", [])), True)
        self.assertIs(is_choice_paper(STILL, TOLD, 0, [], [], [], ("bar", [])), False)

    def test_more_than_there_are_sensors(self):
        self.assertEqual(choice_paper(STILL, TOLD, 6, [], [], [])[0], "choice")
        rows = [((1, 0), 3), ((-1, 0), -4)]
        paper = choice_paper(STILL, TOLD, 6, [], [], rows)
        self.assertEqual(paper[0], "bar")
        self.assertTrue(is_right_table(STILL, TOLD, (6, [], [], rows), None, paper[1]))
        # No reading is blamed by a clash of the rows asked for, so the empty choice is enough.
        clash = [(0, 1)] * 8 + [(1, 1), (1, 1)]
        self.assertIs(is_table(STILL, TOLD, 6, [], [], rows, None, [([], clash)]), True)
        paper = choice_paper(STILL, TOLD, 6, [], [], [((1, 0), -5)])
        self.assertEqual(paper[:2], ("choice", ["a", "b", "c"]))

    def test_every_row_counts(self):
        for must, never, expected in [([], [], ["b"]), (["a"], [], ["a", "c"]), ([], ["b"], ["a", "c"]), (["c"], [], ["a", "c"]),
                                      (["a"], ["b"], ["a", "c"]), (["b"], ["c"], ["b"])]:
            for most in range(len(expected), 4):
                paper = choice_paper(STILL, TOLD, most, must, never, [])
                self.assertEqual(paper[0], "choice")
                self.assertTrue(answers(STILL, TOLD, (most, must, never, []), paper[1], paper[2]))
            self.assertEqual(choice_paper(STILL, TOLD, len(expected) - 1, must, never, [])[0], "bar")
        # Without b it was 1, so this row asks for another choice.
        self.assertEqual(choice_paper(STILL, TOLD, 1, [], [], [((-1, 0), -2)])[0], "bar")
        self.assertEqual(choice_paper(STILL, TOLD, 2, [], [], [((-1, 0), -2)])[1], ["a", "c"])


class Judges(unittest.TestCase):
    CASES = [(1, [], [], []), (0, [], [], []), (2, [], ["b"], [((1, 0), 2)]), (2, ["b"], [], [((-1, 0), -2)]), (1, ["a", "b"], [], [])]

    def test_choice_papers(self):
        for question in self.CASES:
            def is_right(value):
                if value[0] == "choice":
                    return answers(STILL, TOLD, question, value[1], value[2])
                return value[0] == "bar" and is_right_table(STILL, TOLD, question, None, value[1])
            check_refusals(self, lambda value: is_choice_paper(STILL, TOLD, *question, value), choice_paper(STILL, TOLD, *question),
                           is_right, [("choice", [], []), ("choice", None, None), ("bar", None), ("bar", [None]), ("bar", [([],)]),
                                      ("bar", [([], [])]), ("choice", ["b"]), ("bar",), ("choice", ["b"], [])])

    def test_of_nothing_else(self):
        counts = [0, 0]
        for made, world, readings in made_doubts(254, 100):
            question, other = made_question(made, world), made_question(made, world)
            paper = choice_paper(world, readings, *question)
            taken = is_choice_paper(world, readings, *other, paper)
            counts[taken] += 1
            if paper[0] == "choice":
                self.assertIs(taken, answers(world, readings, other, paper[1], paper[2]))
            elif len(paper[1]) == 0 or len(paper[1][0][1]) == len(question_rows(world, readings, other[3])[1]):
                self.assertIs(taken, is_right_table(world, readings, other, None, paper[1]))
            else:
                self.assertIs(taken, False)
        self.assertGreater(min(counts), 15)

    def test_tables_changed(self):
        paper = choice_paper(STILL, TOLD, 1, [], ["b"], [])
        table = paper[1]
        self.assertEqual((paper[0], [choice for choice, _ in table]), ("bar", [[], ["a"]]))

        def judge(value):
            return is_table(STILL, TOLD, 1, [], ["b"], [], None, value)
        check_refusals(self, judge, table, lambda value: is_right_table(STILL, TOLD, (1, [], ["b"], []), None, value),
                       [[None], [([], None)], [([], [])], [([],)], [(None, None)], [([], [], [])]])
        # Left out, put in, in the wrong sequence, with weights of one another.
        first, second = table
        noughts = [(0, 1)] * 8
        for value in [[first], [second], [second, first], [first, first, second], [first, second, second],
                      [(first[0], second[1]), (second[0], first[1])], [first, (["a"], noughts)], [first, (["b"], second[1])],
                      [first, second, (["b"], first[1])], [first, second, (["a", "c"], noughts)], []]:
            self.assertIs(judge(value), is_right_table(STILL, TOLD, (1, [], ["b"], []), None, value), value)
        for value in [[first], [second], [second, first], [first, first, second], []]:
            self.assertIs(judge(value), False)
        for value in STRANGE:
            self.assertIs(judge([first, (value, second[1])]), False)
            self.assertIs(judge([first, (["a"], value)]), False)
            self.assertIs(judge([first, value]), False)
        self.assertIs(judge([first] * 6000), False)

    def test_further_tuples_are_taken(self):
        """A table may have choices that none of its tuples asks for, as long as these are right."""
        paper = choice_paper(STILL, TOLD, 1, [], ["b"], [])
        first, second = paper[1]
        # At first it was at most 1, at the next moment it is at least 3, and it does not rise.
        clash_without_c = [(0, 1), (1, 1), (1, 1), (0, 1), (0, 1), (1, 1), (0, 1), (0, 1)]
        self.assertTrue(is_right_table(STILL, TOLD, (1, [], ["b"], []), None, [first, second, (["c"], clash_without_c)]))
        self.assertIs(is_table(STILL, TOLD, 1, [], ["b"], [], None, [first, second, (["c"], clash_without_c)]), True)
        self.assertIs(is_table(STILL, TOLD, 0, [], [], [], None, [first, second, (["c"], clash_without_c)]), False)


class Doubled(unittest.TestCase):
    def test_doubled(self):
        for made, world, readings in made_conflicts(255, 40):
            more = readings + [("zz",) + reading[1:] for reading in readings[:1]]
            self.assertEqual(least_choices(world, more), least_choices(world, readings))
            self.assertEqual(fitting_by_least(world, made.mixed_up(more), 3), fitting_choices(world, readings, 3))


if __name__ == "__main__":
    unittest.main()
