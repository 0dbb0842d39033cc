"""The plain gist: known answers, its bounds, and that it is told where rows grow without bound."""

import unittest

from allreadings.answering import answer_to, gist
from allreadings.errors import TooMany
from allreadings.plainly import plain_gist
from allreadings.questions import plain_ends
from allreadings.unbounded import left_with
from allreadings.rowsof import is_false
from allreadings.solving import has_point
from tests.made import WORDS, Made, MadeWorlds, made_asked
from tests.test_courses import GROW

READS = [("r1", "a", 1, (5, 1))]
CLASH = READS + [("r2", "a", 0, (-9, 1))]
FREE = (1, 2, [], [[]], [("a", (1,), (1, 1))])


class Known(unittest.TestCase):
    def test_each_word(self):
        rise = [(0, (-1,)), (1, (1,))]
        for readings, question, expected in [
                (READS, ("course",), "yes"), (CLASH, ("course",), "no"), (READS, ("stand", 0, [(2, 1)]), "yes"),
                (READS, ("stand", 0, [(13, 2)]), "no"), (CLASH, ("stand", 0, [(2, 1)]), "no"), (CLASH, ("set", 1), ("empty", 1)),
                (READS, ("set", 0), ("shape", 1, [((-1,), -2), ((1,), 6)], [[(2, 1)], [(6, 1)]], [])),
                (READS, ("reach", rise, []), ("reach", (0, 1), (2, 1))), (READS, ("reach", [], []), ("reach", (0, 1), (0, 1))),
                ([], ("reach", [(0, (1,))], []), ("reach", (0, 1), None)), (CLASH, ("reach", rise, []), ("clash",)),
                (READS, ("reach", [(0, (1,))], [(rise, 1)]), ("reach", (3, 1), (6, 1))), (READS, ("peak", (-1,), []), ("peak", (-6, 1))),
                ([], ("peak", (-1,), []), ("endless",)), (CLASH, ("peak", (1,), []), ("clash",)),
                (READS, ("saying", ("all", []), []), "surely"), (READS, ("saying", ("any", []), []), "never"),
                (CLASH, ("saying", ("any", []), []), "clash"), (READS, ("saying", ("all", [([(0, (1,))], 6)]), []), "surely"),
                (READS, ("saying", ("any", [([(0, (1,))], 3), ([(0, (-1,))], -3)]), []), "surely"),
                (READS, ("saying", ("all", [([(0, (1,))], 3), ([(0, (-1,))], -3)]), []), "perhaps"),
                (READS, ("saying", ("all", [([(0, (1,))], 3), ([(0, (-1,))], -4)]), []), "never"),
                (READS, ("by", (-1,), -2, []), ("by", 0)), (READS, ("by", (-1,), -4, []), ("by", 1)), (READS, ("by", (-1,), -5, []), ("open",)),
                (CLASH, ("by", (-1,), -5, []), ("clash",)), (CLASH, ("conflicts",), ([["r2"]], [["r2"]])), ([], ("conflicts",), ([], [[]])),
                (READS, ("extra",), ("extra", (0, 1))), (CLASH, ("extra",), ("extra", (8, 1))), (READS, ("sensor", 0, "a"), "right"),
                (READS, ("sensor", 1, "a"), "open"), (CLASH, ("sensor", 0, "a"), "none"), (CLASH, ("sensor", 1, "a"), "wrong"),
                (CLASH, ("spread", 0, 0), []), (CLASH, ("spread", 1, 0), [("shape", 1, [((-1,), 0)], [[(0, 1)]], [(1,)])]),
                (READS, ("said", 0, ((1, 0), 6)), "surely"), (READS, ("said", 1, ((1, 0), 6)), "perhaps"),
                (READS, ("said", 1, ((1, 0), -1)), "never"), (CLASH, ("said", 0, ((1, 0), -1)), "none")]:
            self.assertEqual(plain_gist(world=GROW, readings=readings, question=question), expected, question)
            self.assertEqual(gist(question, answer_to(GROW, readings, question)), expected, question)

    def test_no_course_at_all(self):
        against = (1, 2, [((1,), -1), ((-1,), 0)], [[]], [("a", (1,), (1, 1))])
        for question, expected in [(("extra",), ("none",)), (("conflicts",), ([[]], [])), (("sensor", 6, "a"), "none"),
                                   (("spread", 6, 0), []), (("said", 6, ((0, 0), 0)), "none"), (("set", 1), ("empty", 1))]:
            for readings in ([], READS):
                self.assertEqual(plain_gist(against, readings, question), expected)
                self.assertEqual(gist(question, answer_to(against, readings, question)), expected)

    def test_ends_without_end(self):
        self.assertEqual(plain_gist(FREE, [], ("reach", [(1, (2,))], [])), ("reach", None, None))
        self.assertEqual(plain_gist(FREE, [], ("reach", [(1, (2,))], [([(1, (1,))], 3)])), ("reach", None, (6, 1)))
        self.assertEqual(plain_gist(FREE, [], ("peak", (1,), [])), ("endless",))
        self.assertEqual(plain_gist(FREE, [], ("peak", (1,), [([(1, (-2,))], 3)])), ("peak", (-3, 2)))


class Bounds(unittest.TestCase):
    def test_unknowns(self):
        made = MadeWorlds(331)
        for many, moments in [(1, 6), (2, 3), (1, 7), (2, 4), (2, 8)]:
            world = (many, moments, [], [[]] * (moments - 1), [("a", (1,) + (0,) * (many - 1), (1, 1))])
            for word in WORDS:
                question = made_asked(made, world, word)
                eleven = [(f"r{k}", "a", 0, (0, 1)) for k in range(11)]
                if many * moments <= 6:
                    self.assertEqual(plain_gist(world, eleven[:1], question), gist(question, answer_to(world, eleven[:1], question)))
                    continue
                for readings in ([], eleven):
                    with self.assertRaises(TooMany) as caught:
                        plain_gist(world, readings, question)
                    self.assertEqual((caught.exception.what, caught.exception.limit), ("unknowns", 6))

    def test_readings(self):
        eleven = [(f"r{k}", "a", 0, (0, 1)) for k in range(11)]
        self.assertEqual(plain_gist(GROW, eleven[:10], ("conflicts",)), ([], [[]]))
        with self.assertRaises(TooMany) as caught:
            plain_gist(GROW, eleven, ("conflicts",))
        self.assertEqual((caught.exception.what, caught.exception.limit), ("readings", 10))
        for question in [("course",), ("set", 0), ("extra",), ("spread", 1, 0)]:
            self.assertEqual(plain_gist(GROW, eleven, question), gist(question, answer_to(GROW, eleven, question)))

    def test_no_bound_on_rows(self):
        """The plain gist is told where taking out by places leaves more than 400 rows."""
        made = MadeWorlds(15)
        for count in range(4):
            size = made.number(2, 9)
            steps = [[(tuple(number or 1 for number in made.numbers(4, size)), made.number(30, 120)) for _ in range(8)]
                     for _ in range(2)]
            world = (2, 3, [(made.direction(2), made.number(20, 80)) for _ in range(8)], steps, [])
            supposed = [([(moment, made.direction(2)) for moment in range(3)], made.number(20, 80)) for _ in range(4)]
            terms = [(moment, made.direction(2)) for moment in range(3)]
            with self.assertRaises(TooMany) as caught:
                plain_ends(world, [], terms, supposed=supposed)
            self.assertEqual((caught.exception.what, caught.exception.limit), ("rows", 400))
            if count == 3:
                for question in [("reach", terms, supposed), ("peak", (1, 1), supposed), ("course",)]:
                    self.assertEqual(plain_gist(world, [], question), gist(question, answer_to(world, [], question)))

    def test_many_rows(self):
        """Worlds with all rows that there can be, and linears about all moments."""
        made = MadeWorlds(332)
        for many, moments in [(2, 3), (1, 6)]:
            size = many * moments
            start = [(tuple(number or 1 for number in made.numbers(many, 9)), made.number(20, 80)) for _ in range(8)]
            steps = [[(tuple(number or 1 for number in made.numbers(2 * many, 9)), made.number(30, 120)) for _ in range(8)]
                     for _ in range(moments - 1)]
            sensors = [(name, tuple(number or 1 for number in made.numbers(many, 5)), (made.number(5, 30), 1)) for name in "abcdef"]
            world = (many, moments, start, steps, sensors)
            readings = [(f"r{k}", made.one_of(sensors)[0], made.number(0, moments - 1), (made.number(-4, 4), 1)) for k in range(30)]
            linears = [([(moment, made.direction(many)) for moment in range(moments)], made.number(5, 40)) for _ in range(3)]
            numbers = made.numbers(size, 5)
            for question in [("reach", linears[0][0], linears[:2]), ("saying", ("any", linears), []), ("by", made.direction(many), 2, []),
                             ("extra",), ("set", 1), ("said", 1, (numbers, 40)), ("spread", 2, 1), ("sensor", 1, "a")]:
                self.assertEqual(plain_gist(world, readings, question), gist(question, answer_to(world, readings, question)))


class TakingOut(unittest.TestCase):
    def test_points_stay(self):
        """Whichever unknowns are taken out: what is left has points exactly where the system has some."""
        made = Made(333)
        counts = [0, 0]
        for _ in range(80):
            many = made.number(1, 4)
            system = made.system(many, made.number(0, 7))
            left = left_with(system, [])
            false = any(is_false(row) for row in left[1])
            counts[false] += 1
            self.assertIs(has_point(system), not false)
            kept = [place for place in range(many) if made.number(0, 1)]
            self.assertEqual(left_with(system, kept)[0], len(kept))
            self.assertIs(has_point(left_with(system, kept)), not false)
        self.assertGreater(min(counts), 15)


if __name__ == "__main__":
    unittest.main()
