"""Judges of answers and of sheaves: any value, and answers with one place changed."""

import unittest

from allreadings.answering import answer_to, gist, is_question, sheaf
from allreadings.judging import first_unfit, is_answer
from allreadings.plainly import plain_gist
from tests.made import STRANGE, WORDS, MadeWorlds, changed, made_asked, made_conflicts, with_bools, with_kinds
from tests.test_courses import GROW

READS = [("r1", "a", 1, (5, 1))]
CLASH = READS + [("r2", "a", 0, (-9, 1))]
RISE = [(0, (-1,)), (1, (1,))]
QUESTIONS = [("course",), ("set", 0), ("stand", 0, [(2, 1)]), ("stand", 0, [(1, 1)]), ("reach", RISE, []), ("peak", (1,), []),
             ("saying", ("all", [(RISE, 1)]), []), ("saying", ("any", [(RISE, 2)]), [(RISE, 1)]), ("by", (-1,), -4, []), ("conflicts",),
             ("extra",), ("sensor", 1, "a"), ("spread", 0, 1), ("spread", 1, 0), ("said", 0, ((1, 0), 6)), ("said", 1, ((1, 0), 3))]


class Judging(unittest.TestCase):
    def test_any_value(self):
        for readings in (READS, CLASH):
            for question in QUESTIONS:
                for value in STRANGE + [("yes", None), ("yes", []), ("no", None), ("no", []), ("course", []), ("bar", None, None),
                                        (None, None), ([], []), (("bar", []), ("bar", [])), ("reach", None, None), ("extra", 1, 2, 3)]:
                    self.assertIs(is_answer(GROW, readings, question, value), False, (question, value))

    def test_changed(self):
        """An answer with one place changed is taken only if it still has the gist, and never with a bool or another kind."""
        for readings in (READS, CLASH):
            for question in QUESTIONS:
                answer, told = answer_to(GROW, readings, question), plain_gist(GROW, readings, question)
                self.assertIs(is_answer(world=GROW, readings=readings, question=question, value=answer), True)
                for other in [*with_bools(answer), *with_kinds(answer)]:
                    self.assertIs(is_answer(GROW, readings, question, other), False, (question, other))
                for other in changed(answer):
                    taken = is_answer(GROW, readings, question, other)
                    self.assertIsInstance(taken, bool)
                    if taken:
                        self.assertEqual(gist(question, other), told, (question, other))

    def test_words_exchanged(self):
        course = [[(2, 1)], [(4, 1)]]
        self.assertIs(is_answer(GROW, READS, ("course",), ("yes", course)), True)
        self.assertIs(is_answer(GROW, READS, ("course",), ("no", course)), False)
        self.assertIs(is_answer(GROW, CLASH, ("course",), ("yes", course)), False)
        self.assertIs(is_answer(GROW, READS, ("course",), ("course", course)), False)
        self.assertIs(is_answer(GROW, READS, ("stand", 0, [(2, 1)]), ("course", course)), True)
        self.assertIs(is_answer(GROW, READS, ("stand", 0, [(2, 1)]), ("yes", course)), False)
        self.assertIs(is_answer(GROW, READS, ("stand", 1, [(2, 1)]), ("course", course)), False)
        bar, choice = answer_to(GROW, CLASH, ("sensor", 1, "a"))
        self.assertEqual((bar[0], choice[0]), ("bar", "choice"))
        self.assertIs(is_answer(GROW, CLASH, ("sensor", 1, "a"), (choice, bar)), False)
        self.assertIs(is_answer(GROW, CLASH, ("sensor", 1, "a"), (bar, choice, bar)), False)
        shape, paper = answer_to(GROW, READS, ("set", 0))
        self.assertIs(is_answer(GROW, READS, ("set", 1), (shape, paper)), False)
        self.assertIs(is_answer(GROW, READS, ("spread", 0, 0), ([shape], paper)), False)

    def test_elevenths_reading(self):
        eleven = [(f"r{k}", "a", 0, (0, 1)) for k in range(11)]
        self.assertIs(is_answer(GROW, eleven[:10], ("conflicts",), ([], [([], [[(0, 1)], [(0, 1)]])])), True)
        self.assertIs(is_answer(GROW, eleven, ("conflicts",), ([], [([], [[(0, 1)], [(0, 1)]])])), False)


class Sheaves(unittest.TestCase):
    def test_each_place(self):
        answers = sheaf(GROW, READS, QUESTIONS)
        self.assertIsNone(first_unfit(world=GROW, readings=READS, questions=QUESTIONS, answers=answers))
        for place in range(len(QUESTIONS)):
            for value in STRANGE[::6] + [answers[place - 1]]:
                if is_answer(GROW, READS, QUESTIONS[place], value):
                    continue
                others = answers[:place] + [value] + answers[place + 1:]
                self.assertEqual(first_unfit(GROW, READS, QUESTIONS, others), place)
                others[-1] = None
                self.assertEqual(first_unfit(GROW, READS, QUESTIONS, others), place)
        self.assertIsNone(first_unfit(GROW, READS, [], []))
        self.assertEqual(first_unfit(GROW, CLASH, [("course",)], [("yes", [[(2, 1)], [(4, 1)]])]), 0)

    def test_sixty(self):
        questions = (QUESTIONS * 4)[:60]
        answers = sheaf(GROW, READS, questions)
        before = repr((questions, answers))
        self.assertIsNone(first_unfit(GROW, READS, questions, answers))
        self.assertEqual(first_unfit(GROW, READS, questions, answers[:59] + [("yes", [])]), 59)
        self.assertEqual(repr((questions, answers)), before)

    def test_made(self):
        made = MadeWorlds(321)
        for _, world, readings in made_conflicts(322, 30, 4):
            questions = [question for question in (made_asked(made, world, word) for word in WORDS) if is_question(world, question)]
            answers = sheaf(world, readings, questions)
            self.assertIsNone(first_unfit(world, readings, questions, answers))
            turned = answers[1:] + answers[:1]
            place = first_unfit(world, readings, questions, turned)
            expected = [k for k in range(len(questions)) if not is_answer(world, readings, questions[k], turned[k])]
            self.assertEqual(place, expected[0] if expected else None)


if __name__ == "__main__":
    unittest.main()
