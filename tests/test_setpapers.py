"""Set papers made carried and the plain way, moves, level worlds, and the judges."""

import unittest

from allreadings.allrows import all_rows, at_moment
from allreadings.clashes import is_drift
from allreadings.courses import course_of, is_allowed
from allreadings.everywhere import set_everywhere, sets_everywhere
from allreadings.fractions import plus, times, whole
from allreadings.points import mixed
from allreadings.rowsof import keeps, level_rows
from allreadings.setpapers import is_everywhere, is_move, is_set_paper, level_readings, level_world, move_through
from allreadings.setpapers import papers_everywhere, plain_set_paper, set_paper
from allreadings.shapes import is_shape
from allreadings.worlds import is_readings, is_world
from tests.made import EDGES, STRANGE, changed, exact, made_moments, with_bools, with_kinds
from tests.test_courses import GROW, READS

ALONG = (2, 2, [((-1, 0), 0), ((0, -1), 0), ((1, -2), 3)], [[((1, 0, -1, 0), 0), ((0, 1, 0, -1), 1), ((0, -1, 0, 1), 0)]],
         [("a", (0, 1), (1, 1))])


def as_fractions(move):
    return [[whole(number) for number in numbers] for numbers in move]


class Level(unittest.TestCase):
    def test_level(self):
        world, readings = ALONG, [("r", "a", 1, (5, 2))]
        self.assertEqual(level_world(world=world), (2, 2, [((-1, 0), 0), ((0, -1), 0), ((1, -2), 0)],
                                                    [level_rows(world[3][0])], [("a", (0, 1), (0, 1))]))
        self.assertEqual(level_readings(readings=readings), [("r", "a", 1, (0, 1))])
        self.assertEqual(level_world((1, 2, [((0,), -1)], [[((0, 0), 4)]], [])), (1, 2, [((0,), 0)], [[((0, 0), 0)]], []))

    def test_moves_are_courses_of_the_level_world(self):
        counts = [0, 0]
        for made, world, readings in made_moments(101, 100):
            level, still = level_world(world), level_readings(readings)
            self.assertTrue(is_world(level) and is_readings(level, still))
            moves = [[made.numbers(world[0], 1) for _ in range(world[1])], [(0,) * world[0]] * world[1],
                     [made.direction(world[0])] * world[1]]
            for moment in range(world[1]):
                found = move_through(world, readings, moment, made.direction(world[0]))
                moves += [found] if found is not None else []
            for move in moves:
                is_one = is_move(world=world, readings=readings, value=move)
                counts[is_one] += 1
                self.assertIs(is_allowed(level, still, as_fractions(move)), is_one)
                joined = tuple(number for numbers in move for number in numbers)
                self.assertIs(is_drift(all_rows(world, readings), joined), is_one)
                course = course_of(world, readings)
                if is_one and course is not None:
                    for amount in [(1, 3), (7, 1)]:
                        there = [[plus(a, times(whole(number), amount)) for a, number in zip(stand, numbers)]
                                 for stand, numbers in zip(course, move)]
                        self.assertTrue(is_allowed(world, readings, there))
        self.assertGreater(min(counts), 150)


class Moves(unittest.TestCase):
    def test_is_move(self):
        self.assertIs(is_move(GROW, [], [(3,), (3,)]), True)
        self.assertIs(is_move(GROW, [], [(0,), (0,)]), True)
        self.assertIs(is_move(GROW, READS, [(3,), (3,)]), False)
        self.assertIs(is_move(GROW, READS, [(0,), (0,)]), True)
        for value in STRANGE + [[(3,)], [(3,), (3,), (3,)], [(3,), (4,)], [(-1,), (-1,)], [(3, 3), (3, 3)], ((3,), (3,)),
                                [[3], [3]], [(True,), (True,)], [(1,), (True,)], [3, 3], [((3, 1),), ((3, 1),)],
                                [(3,), None], [(), ()], "ab", [(3,), ("3",)]]:
            self.assertIs(is_move(GROW, [], value), False, value)

    def test_move_through(self):
        told = [0, 0]
        for made, world, readings in made_moments(102, 100):
            before = repr((world, readings))
            for moment, shape in enumerate(sets_everywhere(world, readings)):
                for _ in range(3):
                    direction = made.direction(world[0])
                    direction = made.one_of([direction, tuple(3 * number for number in direction)])
                    move = move_through(world=world, readings=readings, moment=moment, direction=direction)
                    told[move is None] += 1
                    if move is not None:
                        self.assertTrue(is_move(world, readings, move))
                        ratios = {exact((a, 1)) / b for a, b in zip(move[moment], direction) if b}
                        self.assertEqual(len(ratios), 1)
                        ratio = ratios.pop()
                        self.assertGreater(ratio, 0)
                        self.assertEqual([ratio * b for b in direction], list(move[moment]))
                    if shape[0] == "shape":
                        # It is a direction of the set exactly if it has a worth of at most 0 in all rows.
                        along = all(sum(a * b for a, b in zip(row[0], direction)) <= 0 for row in shape[2])
                        self.assertIs(move is not None, along)
            self.assertEqual(repr((world, readings)), before)
        self.assertGreater(min(told), 100)

    def test_without_a_course(self):
        world = (1, 2, [((0,), -1)], [[((1, -1), 0), ((-1, 1), -5)]], [])
        self.assertIsNone(course_of(world, []))
        self.assertTrue(is_move(world, [], move_through(world, [], 1, (4,))))


class Papers(unittest.TestCase):
    def test_made(self):
        words = {"set": 0, "clash": 0, "along": 0}
        papers = []
        for made, world, readings in made_moments(103, 120):
            before = repr((world, readings))
            shapes = sets_everywhere(world, readings)
            everywhere = papers_everywhere(world=world, readings=readings)
            self.assertIs(is_everywhere(world=world, readings=readings, shapes=shapes, value=everywhere), True)
            for moment, shape in enumerate(shapes):
                for paper in [everywhere[moment], set_paper(world=world, readings=readings, moment=moment),
                              plain_set_paper(world=world, readings=readings, moment=moment)]:
                    self.assertIs(is_set_paper(world=world, readings=readings, moment=moment, shape=shape, value=paper),
                                  True)
                    words[paper[0]] += 1
                    words["along"] += shape[0] == "shape" and shape[4] != []
                papers.append((world, readings, moment, shape, everywhere[moment]))
            self.assertEqual(repr((world, readings)), before)
        self.assertGreater(min(words.values()), 60)
        for world, readings, moment, shape, paper in papers[::9]:
            for _, _, _, other, other_paper in papers[::7]:
                if other != shape:
                    self.assertIs(is_set_paper(world, readings, moment, other, paper), False)
                    self.assertIs(is_set_paper(world, readings, moment, other, other_paper), False)

    def test_each_point_of_the_set_has_a_course(self):
        for made, world, readings in made_moments(104, 40):
            for moment, shape in enumerate(sets_everywhere(world, readings)):
                paper = set_paper(world, readings, moment)
                if paper[0] == "clash":
                    continue
                _, _, courses, moves = paper
                count = len(courses)
                shares = [(1, count)] * count if count > 1 else [(1, 1)]
                course = [mixed(list(stands), shares) for stands in zip(*courses)]
                for move in moves:
                    course = [[plus(a, times(whole(number), (2, 3))) for a, number in zip(stand, numbers)]
                              for stand, numbers in zip(course, move)]
                self.assertTrue(is_allowed(world, readings, course))
                self.assertTrue(all(keeps(row, course[moment]) for row in shape[2]))


class Judge(unittest.TestCase):
    CASES = [(GROW, READS, 0), (GROW, READS + [("r2", "a", 0, (-3, 1))], 1), (ALONG, [("r", "a", 1, (5, 2))], 1),
             (ALONG, [], 0), (*EDGES["drift without end"], 1)]

    def test_any_value(self):
        for world, readings, moment in self.CASES:
            shape, paper = set_everywhere(world, readings, moment), set_paper(world, readings, moment)
            for value in STRANGE + [("set", [], [], []), ("set", None, None, None), ("set", [[]], [[]], [[]]),
                                    ("clash", None), ("set", [], [None], [None]), (None, [], [], [])]:
                self.assertIs(is_set_paper(world, readings, moment, shape, value), False, value)
                self.assertIs(is_set_paper(world, readings, moment, value, paper), repr(value) == repr(shape), value)
                self.assertIs(is_set_paper(world, readings, moment, value, value), False, value)

    def test_one_place_changed(self):
        taken = 0
        for world, readings, moment in self.CASES:
            shape, paper = set_everywhere(world, readings, moment), set_paper(world, readings, moment)
            self.assertIs(is_set_paper(world, readings, moment, shape, paper), True)
            for other in [*with_bools(paper), *with_kinds(paper)]:
                self.assertIs(is_set_paper(world, readings, moment, shape, other), False, other)
            for other in [*with_bools(shape), *with_kinds(shape), *changed(shape)]:
                self.assertIs(is_set_paper(world, readings, moment, other, paper), False, other)
            for other in changed(paper):
                if is_set_paper(world, readings, moment, shape, other):
                    taken += 1
                    self.assertTrue(self.is_right(world, readings, moment, shape, other), other)
        self.assertGreater(taken, 0)

    def is_right(self, world, readings, moment, shape, value):
        """Whether a paper that the judge takes shows what it says, as point 9 tells it, reckoned apart."""
        many, rows = all_rows(world, readings)
        listed = [value[1]] if value[0] == "clash" else value[1]
        expected = [((0,) * world[0], -exact((1, 10 ** 9)))] if value[0] == "clash" else shape[2]
        for (numbers, most), weights in zip(expected, listed):
            amounts = [exact(weight) for weight in weights]
            sides = tuple(sum(a * row[0][k] for a, row in zip(amounts, rows)) for k in range(many))
            if min(amounts, default=0) < 0 or sides != at_moment(world, moment, numbers):
                return False
            if sum(a * row[1] for a, row in zip(amounts, rows)) > most:
                return False
        if value[0] == "clash":
            return shape[0] == "empty"
        for corner, course in zip(shape[3], value[2]):
            if not is_allowed(world, readings, course) or course[moment] != corner:
                return False
        for direction, move in zip(shape[4], value[3]):
            ratios = {exact((a, 1)) / b for a, b in zip(move[moment], direction) if b}
            there = [list(ratios)[0] * b for b in direction]
            if len(ratios) != 1 or min(ratios) <= 0 or there != list(move[moment]) or not is_move(world, readings, move):
                return False
        return [len(part) for part in value[1:]] == [len(part) for part in shape[2:]]

    def test_wrong_parts(self):
        world, readings, moment = self.CASES[3]
        shape, (word, sums, courses, moves) = set_everywhere(world, readings, moment), set_paper(world, readings, moment)
        self.assertTrue(is_shape(shape) and len(courses) > 0 and len(moves) > 1 and len(sums) > 1)
        doubled = [[tuple(2 * number for number in numbers) for numbers in move] for move in moves]
        self.assertIs(is_set_paper(world, readings, moment, shape, (word, sums, courses, doubled)), True)
        backward = [[tuple(-number for number in numbers) for numbers in move] for move in moves]
        for value in [
                (word, sums, courses, backward), (word, sums, courses, moves[:-1]), (word, sums[:-1], courses, moves),
                (word, sums, courses[:-1], moves), (word, sums, courses + courses[:1], moves), ("clash", sums[0]),
                (word, sums, courses, list(reversed(moves))), (word, list(reversed(sums)), courses, moves),
                (word, sums, [course[:1] for course in courses], moves), (word, sums, courses, [move[:1] for move in moves]),
                (word, sums, courses, [[(0, 0)] * 2 for _ in moves]), (word, courses, sums, moves), (word, sums, moves, courses),
                (word, sums, courses), (word, sums, courses, moves, []), [word, sums, courses, moves]]:
            self.assertIs(is_set_paper(world, readings, moment, shape, value), False, value)
        self.assertIs(is_set_paper(world, readings, 1, shape, (word, sums, courses, moves)), False)

    def test_everywhere(self):
        shapes, papers = sets_everywhere(GROW, READS), papers_everywhere(GROW, READS)
        self.assertIs(is_everywhere(GROW, READS, shapes, papers), True)
        for value in STRANGE + [tuple(papers), papers[:1], papers + papers[:1], list(reversed(papers)), papers[:1] * 2]:
            self.assertIs(is_everywhere(GROW, READS, shapes, value), False, value)
        for value in STRANGE + [tuple(shapes), shapes[:1], shapes + shapes[:1], list(reversed(shapes)), [("empty", 1)] * 2]:
            self.assertIs(is_everywhere(GROW, READS, value, papers), False, value)
            self.assertIs(is_everywhere(GROW, READS, value, value), False, value)


if __name__ == "__main__":
    unittest.main()
