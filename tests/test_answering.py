"""Questions, answers to them, sheaves, and gists; each answer against its judge and against the plain gist."""

import unittest

from allreadings.answering import answer_to, gist, is_question, sheaf
from allreadings.courses import course_of
from allreadings.errors import TooMany
from allreadings.everywhere import set_everywhere, through
from allreadings.judging import first_unfit, is_answer
from allreadings.linears import is_linear, is_saying, is_terms
from allreadings.plainly import plain_gist
from allreadings.questions import ends
from allreadings.setpapers import set_paper
from tests.made import BIG, STRANGE, WORDS, MadeWorlds, changed, doubled, folded, made_asked, made_conflicts, with_bools, with_kinds
from tests.test_courses import GROW

READS = [("r1", "a", 1, (5, 1))]
CLASH = READS + [("r2", "a", 0, (-9, 1))]
RISE = [(0, (-1,)), (1, (1,))]
LINEAR = (RISE, 1)
GOOD = [("course",), ("set", 1), ("stand", 0, [(1, 2)]), ("reach", RISE, []), ("reach", [], [LINEAR] * 4), ("peak", (1,), [LINEAR]),
        ("saying", ("all", []), []), ("saying", ("any", [LINEAR] * 8), [LINEAR]), ("by", (-1,), -BIG, []), ("conflicts",), ("extra",),
        ("sensor", 0, "a"), ("sensor", 6, "a"), ("spread", 6, 0), ("said", 1, ((0, 0), -BIG)), ("said", 0, ((1, -1), 2))]


def mixed_rows(made, world):
    """The world with the rows of its start and of each step in another sequence."""
    many, moments, start, steps, sensors = world
    return (many, moments, made.mixed_up(start), [made.mixed_up(rows) for rows in steps], sensors)


class Questions(unittest.TestCase):
    def test_good(self):
        for question in GOOD:
            self.assertIs(is_question(world=GROW, value=question), True, question)
            for other in [*with_bools(question), *with_kinds(question)]:
                if other != question or repr(other) != repr(question):
                    self.assertIs(is_question(GROW, other), False, other)

    def test_any_value(self):
        bad = [("set",), ("set", 2), ("set", -1), ("set", True), ("set", "0"), ("set", 0, 0), ("stand", 0), ("stand", 0, [(1, 1), (1, 1)]),
               ("stand", 0, [(2, 2)]), ("stand", 0, ((1, 1),)), ("stand", 2, [(1, 1)]), ("reach", RISE), ("reach", RISE, ()),
               ("reach", RISE, (LINEAR,)), ("reach", RISE, [LINEAR] * 5), ("reach", [(0, (0,))], []), ("reach", RISE[::-1], []),
               ("peak", (0,), []), ("peak", (1, 1), []), ("peak", [1], []), ("peak", (1,), None), ("saying", ("all", [LINEAR] * 9), []),
               ("saying", ("some", []), []), ("saying", ("all", ()), []), ("by", (1,), (1, 1), []), ("by", (1,), None, []), ("by", (1,), 1),
               ("by", (0,), 1, []), ("conflicts", 1), ("extra", None), ("course", ()), ("sensor", 7, "a"), ("sensor", -1, "a"),
               ("sensor", 1, "b"), ("sensor", 1, None), ("sensor", 1, ["a"]), ("sensor", "a", 1), ("spread", 7, 0), ("spread", 1, 2),
               ("spread", 0), ("said", 1, ((1,), 1)), ("said", 1, ((1, 1, 1), 1)), ("said", 1, [(1, 1), 1]), ("said", 1, None), ("gist",),
               ("Course",), (["course"],), (None,), (0,), ("",), "course", ["course"], (("course",),)]
        for value in STRANGE + bad:
            self.assertIs(is_question(GROW, value), False, value)
        for question in GOOD:
            for value in STRANGE:
                for place in range(1, len(question)):
                    other = question[:place] + (value,) + question[place + 1:]
                    told = is_question(GROW, other)
                    self.assertIsInstance(told, bool)
                    if told:
                        self.check_part(other, question[0], place, value)

    def check_part(self, question, word, place, value):
        """What may stand there of the strange values."""
        if word in ("set", "spread", "sensor", "said") and place == 1 or (word, place) in [("spread", 2), ("stand", 1)]:
            self.assertTrue(type(value) is int and 0 <= value <= 6)
        elif word == "by" and place == 2:
            self.assertIs(type(value), int)
        elif question[place] == [] or word == "reach":
            self.assertTrue(is_terms(GROW, value) or all(is_linear(GROW, one) for one in value))
        elif word == "saying" and place == 1:
            self.assertTrue(is_saying(GROW, value))
        elif (word, place) == ("stand", 2):
            self.assertIn(value, [[(0, 1)], [(1, 1)]])
        elif (word, place) == ("sensor", 2):
            self.assertEqual(value, "a")
        elif (word, place) in [("peak", 1), ("by", 1)]:
            self.assertTrue(type(value) is tuple and len(value) == 1 and type(value[0]) is int)
        else:
            self.assertEqual((word, place), ("said", 2))
            self.assertEqual(value, ((1, 2), 3))

    def test_made(self):
        made = MadeWorlds(311)
        for _ in range(150):
            world = made.world()
            for word in WORDS:
                question = made_asked(made, world, word)
                self.assertIs(is_question(world, question), True)
                for k, other in enumerate(changed(question)):
                    if k % 5 == 0:
                        self.assertIsInstance(is_question(world, other), bool)
        self.assertIs(is_question((1, 1, [], [], []), ("sensor", 1, "a")), False)
        wide = (2, 8, [], [[]] * 7, [])
        self.assertIs(is_question(wide, ("said", 2, ((1,) * 16, 4))), True)
        self.assertIs(is_question(wide, ("set", 7)), True)


class Answers(unittest.TestCase):
    def test_each_answer_and_its_gist(self):
        """Each answer is taken for its question; its gist is the plain one, whatever the sequence of rows and readings."""
        counts = {}
        for made, world, readings in made_conflicts(312, 130, 5):
            if world[0] * world[1] > 6:
                continue
            for word in WORDS:
                question = made_asked(made, world, word)
                before = repr((world, readings, question))
                answer = answer_to(world=world, readings=readings, question=question)
                self.assertIs(is_answer(world, readings, question, answer), True, (world, readings, question, answer))
                told = gist(question=question, answer=answer)
                self.assertEqual(told, plain_gist(world, readings, question), (world, readings, question))
                self.assertEqual(answer_to(world, readings, question), answer)
                other = mixed_rows(made, world)
                mixed = made.mixed_up(readings)
                self.assertEqual(gist(question, answer_to(other, mixed, question)), told)
                if word != "conflicts":
                    self.assertEqual(gist(question, answer_to(world, doubled(readings), question)), told)
                self.assertEqual(repr((world, readings, question)), before)
                name = told if isinstance(told, str) else told[0] if isinstance(told, tuple) and told and isinstance(told[0], str) else ""
                counts[word, name] = counts.get((word, name), 0) + 1
        expected = [("course", "yes"), ("course", "no"), ("set", "shape"), ("set", "empty"), ("stand", "yes"), ("stand", "no"),
                    ("reach", "reach"), ("reach", "clash"), ("peak", "peak"), ("peak", "endless"), ("peak", "clash"), ("saying", "clash"),
                    ("saying", "surely"), ("saying", "never"), ("saying", "perhaps"), ("by", "by"), ("by", "open"), ("by", "clash"),
                    ("conflicts", ""), ("extra", "extra"), ("extra", "none"), ("sensor", "none"), ("sensor", "right"), ("sensor", "open"),
                    ("sensor", "wrong"), ("spread", ""), ("said", "none"), ("said", "surely"), ("said", "never"), ("said", "perhaps")]
        self.assertEqual(sorted(counts), sorted(expected), counts)

    def test_of_nothing_else(self):
        """An answer to one question that is taken for another one, or for other readings, has that one's gist."""
        taken = 0
        for made, world, readings in made_conflicts(313, 40, 4):
            if world[0] * world[1] > 6:
                continue
            questions = [made_asked(made, world, word) for word in WORDS] + [made_asked(made, world, word) for word in WORDS]
            answers = sheaf(world=world, readings=readings, questions=questions)
            self.assertIsNone(first_unfit(world, readings, questions, answers))
            for question in questions:
                for answer in answers:
                    if is_answer(world, readings, question, answer):
                        taken += 1
                        self.assertEqual(gist(question, answer), plain_gist(world, readings, question), (question, answer))
            for question, answer in zip(questions, answers):
                if is_answer(world, readings[1:], question, answer):
                    self.assertEqual(gist(question, answer), plain_gist(world, readings[1:], question))
        self.assertGreater(taken, 500)

    def test_gists(self):
        self.assertEqual(gist(("course",), ("no", [(1, 1)])), "no")
        self.assertEqual(gist(("stand", 0, [(2, 1)]), ("course", [[(2, 1)], [(4, 1)]])), "yes")
        self.assertEqual(gist(("stand", 0, [(0, 1)]), ("bar", ((-1,), -2), [])), "no")
        self.assertEqual(gist(("set", 0), (("empty", 1), ("clash", []))), ("empty", 1))
        low, high = ("endless", [], []), ("at", (7, 2), [], [])
        self.assertEqual(gist(("reach", [], []), ("reach", low, high)), ("reach", None, (7, 2)))
        self.assertEqual(gist(("reach", [], []), ("reach", high, low)), ("reach", (7, 2), None))
        self.assertEqual(gist(("reach", [], []), ("reach", low, low)), ("reach", None, None))
        self.assertEqual([gist((word, None, []), ("clash", [])) for word in ("reach", "peak", "by")], [("clash",)] * 3)
        self.assertEqual(gist(("peak", (1,), []), ("peak", (3, 1), [], [], [])), ("peak", (3, 1)))
        self.assertEqual(gist(("peak", (1,), []), ("endless", [], [])), ("endless",))
        self.assertEqual(gist(("by", (1,), 0, []), ("by", 2, (), [])), ("by", 2))
        self.assertEqual(gist(("by", (1,), 0, []), ("open", [])), ("open",))
        self.assertEqual([gist(("saying", ("all", []), []), (word, 0, 0)) for word in ("clash", "surely", "never", "perhaps")],
                         ["clash", "surely", "never", "perhaps"])
        self.assertEqual([gist(("said", 0, None), (word, 0)) for word in ("none", "surely")], ["none", "surely"])
        self.assertEqual([gist(("extra",), ("extra", (1, 2), [], [])), gist(("extra",), ("none", []))], [("extra", (1, 2)), ("none",)])
        self.assertEqual(gist(("conflicts",), ([(["a", "b"], [])], [(["a"], []), (["b"], [])])), ([["a", "b"]], [["a"], ["b"]]))
        bar, choice = ("bar", []), ("choice", [], [])
        self.assertEqual([gist(("sensor", 0, "a"), papers) for papers in [(bar, bar), (bar, choice), (choice, bar), (choice, choice)]],
                         ["none", "wrong", "right", "open"])
        self.assertEqual(gist(("spread", 0, 0), ([("shape", 1, [], [[(0, 1)]], [(-1,), (1,)])], ())),
                         [("shape", 1, [], [[(0, 1)]], [(-1,), (1,)])])

    def test_gists_share_nothing(self):
        for question in [("set", 0), ("spread", 1, 0), ("conflicts",)]:
            answer = answer_to(GROW, CLASH, question) if question[0] == "conflicts" else answer_to(GROW, READS, question)
            before = repr(answer)
            told = gist(question, answer)
            parts = list(told)
            while parts:
                part = parts.pop()
                if isinstance(part, (list, tuple)):
                    parts.extend(part)
                if isinstance(part, list):
                    part.append("z")
            self.assertEqual(repr(answer), before)

    def test_readings_of_conflicts(self):
        ten = [(f"q{k}", "a", k % 2, (5, 1)) for k in range(10)]
        self.assertEqual(gist(("conflicts",), answer_to(GROW, ten, ("conflicts",))), ([], [[]]))
        for call in [lambda: answer_to(GROW, ten + READS, ("conflicts",)), lambda: sheaf(GROW, ten + READS, [("course",), ("conflicts",)])]:
            with self.assertRaises(TooMany) as caught:
                call()
            self.assertEqual((caught.exception.what, caught.exception.limit), ("readings", 10))
        for word in WORDS:
            question = made_asked(MadeWorlds(1), GROW, word)
            if word != "conflicts":
                self.assertIs(is_answer(GROW, ten + READS, question, answer_to(GROW, ten + READS, question)), True)

    def test_bounds_on_rows(self):
        """TooMany of "rows" is raised as in the stages of sets, of "set" and "stand" alone."""
        world, readings = folded()
        for question in [("set", 0), ("stand", 0, [(0, 1), (0, 1)])]:
            with self.assertRaises(TooMany) as caught:
                answer_to(world, readings, question)
            self.assertEqual((caught.exception.what, caught.exception.limit), ("rows", 200))
        made = MadeWorlds(4)
        for word in ["course", "reach", "peak", "saying", "by", "extra", "sensor", "spread", "said"]:
            question = (word, 1, 0) if word == "spread" else made_asked(made, world, word)
            answer = answer_to(world, readings, question)
            self.assertIs(is_answer(world, readings, question, answer), True)
        self.assertEqual(answer_to(world, readings, ("set", 7))[0], set_everywhere(world, readings, 7))

    def test_sheaves(self):
        self.assertEqual(sheaf(GROW, READS, []), [])
        questions = GOOD * 3
        answers = sheaf(GROW, READS, questions)
        self.assertEqual((len(answers), type(answers)), (48, list))
        self.assertEqual(answers, [answer_to(GROW, READS, question) for question in questions])

    def test_known_answers(self):
        self.assertEqual(answer_to(GROW, READS, ("set", 0)), (set_everywhere(GROW, READS, 0), set_paper(GROW, READS, 0)))
        self.assertEqual(answer_to(GROW, READS, ("stand", 0, [(1, 1)])), through(GROW, READS, 0, [(1, 1)]))
        self.assertEqual(answer_to(GROW, READS, ("course",)), ("yes", course_of(GROW, READS)))
        self.assertEqual(answer_to(GROW, CLASH, ("course",))[0], "no")
        self.assertEqual(gist(("reach", RISE, [LINEAR]), answer_to(GROW, READS, ("reach", RISE, [LINEAR]))),
                         ("reach",) + ends(GROW, READS, RISE, supposed=[LINEAR]))

    def test_one_more_reading(self):
        """With a reading more behind, "no" and "bar" are answers still if two noughts are put behind their weights."""
        counts = [0, 0]
        for made, world, readings in made_conflicts(314, 120, 4):
            if not readings:
                continue
            less = readings[:-1]
            told = answer_to(world, less, ("course",))
            if told[0] == "no":
                counts[0] += 1
                self.assertIs(is_answer(world, readings, ("course",), ("no", told[1] + [(0, 1), (0, 1)])), True)
                self.assertIs(is_answer(world, readings, ("course",), told), False)
            question = ("stand", 0, made.point(world[0], 5))
            told = answer_to(world, less, question)
            if told[0] == "bar":
                counts[1] += 1
                self.assertIs(is_answer(world, readings, question, told[:2] + (told[2] + [(0, 1), (0, 1)],)), True)
                self.assertIs(is_answer(world, readings, question, told), False)
        self.assertGreater(min(counts), 15)


if __name__ == "__main__":
    unittest.main()
