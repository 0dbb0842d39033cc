"""Verdicts on sayings, spells, and when a linear is kept, with their papers and judges."""

import unittest

from allreadings.answers import by_paper, by_when, first_surely, is_by_paper, is_verdict, spells, verdict, word_of
from allreadings.linears import is_known, keeps_linear, keeps_saying, known_course, known_rows, linear_row, linears_at
from allreadings.questions import ends
from allreadings.worlds import readings_moved, world_moved
from tests.apart import check_refusals, shows_clash, shows_row, sum_apart
from tests.made import STRANGE, exact, made_questions
from tests.test_courses import allowed_courses

CART = (1, 2, [((-1,), 0)], [[((-1, 1), 2), ((1, -1), 0)]], [("a", (1,), (1, 1))])
HEARD = [("r", "a", 1, (5, 1))]
AGAINST = HEARD + [("s", "a", 0, (-9, 1))]
LOW, HIGH = ([(0, (1,))], 3), ([(0, (-1,))], -3)
NOT_SUPPOSED = [[([], -1)], [([(0, (1,))], -1)], (([(0, (1,))], 3), ([(0, (-1,))], -4))]


def is_right_verdict(world, readings, saying, supposed, value):
    """Whether a verdict shows what it says, reckoned apart."""
    many, known = system = known_rows(world, readings, supposed=supposed)
    kind, linears = saying
    rows = [linear_row(world, linear) for linear in linears]
    if value[0] == "clash":
        return len(value) == 2 and shows_clash(system, value[1])
    word, paper, course = value
    if not is_known(world, readings, course, supposed=supposed):
        return False
    if word == "perhaps":
        if not is_known(world, readings, paper, supposed=supposed):
            return False
        return keeps_saying(saying, paper) and not keeps_saying(saying, course)
    if word == "surely" and kind == "all":
        return len(paper) == len(rows) and all(shows_row(system, row, told) for row, told in zip(rows, paper))
    if word == "surely":
        shares, weights = paper
        amounts = [exact(share) for share in shares]
        if len(shares) != len(rows) or sum(amounts) != 1 or min(amounts) < 0:
            return False
        mixed, told = sum_apart((many, rows), shares), sum_apart(system, weights)
        return told is not None and told[0] == mixed[0] and told[1] <= mixed[1]
    if word != "never":
        return False
    if kind == "all":
        return shows_clash((many, known + rows), paper)
    return len(paper) == len(rows) and all(shows_clash((many, known + [row]), told) for row, told in zip(rows, paper))


def made_sayings(seed, count):
    """Worlds, readings, linears supposed and a saying with 0 to 8 linears."""
    for made, world, readings, _, supposed in made_questions(seed, count):
        linears = [made.linear(world, made.one_of([1, 3])) for _ in range(made.one_of([0, 1, 1, 2, 3, 8]))]
        if linears and made.number(0, 3) == 0:
            # Linears that between them leave no course out, or hardly one.
            terms, most = linears[0]
            contrary = [(moment, tuple(-number for number in numbers)) for moment, numbers in terms]
            linears = [linears[0], (contrary, -most - made.number(0, 1))]
        yield made, world, readings, supposed, (made.one_of(["all", "any"]), linears)


class Verdicts(unittest.TestCase):
    def test_made(self):
        words = {(kind, word): 0 for kind in ("all", "any") for word in ("clash", "surely", "never", "perhaps")}
        for made, world, readings, supposed, saying in made_sayings(201, 400):
            before = repr((world, readings, supposed, saying))
            told = verdict(world, readings, saying, supposed=supposed)
            words[saying[0], told[0]] += 1
            self.assertTrue(is_right_verdict(world, readings, saying, supposed, told), (world, readings, saying, told))
            self.assertIs(is_verdict(world, readings, saying, told, supposed=supposed), True)
            self.assertEqual(word_of(world, readings, saying, supposed=supposed), told[0])
            self.assertIs(told[0] == "clash", known_course(world, readings, supposed=supposed) is None)
            self.assertEqual(word_of(world, made.mixed_up(readings), saying, supposed=supposed), told[0])
            doubled = readings + [("zz",) + reading[1:] for reading in readings[:1]]
            self.assertEqual(word_of(world, doubled, saying, supposed=supposed), told[0])
            turned = (saying[0], list(reversed(saying[1])))
            self.assertEqual(word_of(world, readings, turned, supposed=supposed), told[0])
            self.assertEqual(repr((world, readings, supposed, saying)), before)
            for course in allowed_courses(made, world, readings, 3):
                if is_known(world, readings, course, supposed=supposed) and told[0] in ("surely", "never"):
                    self.assertIs(keeps_saying(saying, course), told[0] == "surely")
        self.assertGreater(min(words.values()), 10, words)

    def test_words_by_ends(self):
        """ "All" is surely kept if the greatest worth of each form is at most its most; supposing it leaves "never"."""
        for _, world, readings, supposed, saying in made_sayings(202, 150):
            word = word_of(world, readings, ("all", saying[1]), supposed=supposed)
            highs = [ends(world, readings, terms, supposed=supposed) for terms, _ in saying[1]]
            if known_course(world, readings, supposed=supposed) is None:
                self.assertEqual(word, "clash")
                continue
            surely = all(told[1] is not None and exact(told[1]) <= most for told, (_, most) in zip(highs, saying[1]))
            kept = known_course(world, readings, supposed=list(supposed) + saying[1])
            self.assertEqual(word, "surely" if surely else "never" if kept is None else "perhaps")
            for linear in saying[1]:
                one = word_of(world, readings, ("all", [linear]), supposed=supposed)
                self.assertEqual(one, word_of(world, readings, ("any", [linear]), supposed=supposed))

    def test_no_linears(self):
        self.assertEqual(verdict(CART, HEARD, ("all", []))[:2], ("surely", []))
        self.assertEqual(verdict(CART, HEARD, ("any", []))[:2], ("never", []))
        course = known_course(CART, HEARD)
        for kind, value in [("all", ("surely", [], course)), ("any", ("never", [], course))]:
            self.assertIs(is_verdict(CART, HEARD, (kind, []), value), True)
        noughts = [(0, 1)] * 5
        for kind, value in [("all", ("never", [], course)), ("any", ("surely", ([], noughts), course)), ("any", ("surely", [], course)),
                            ("all", ("never", noughts, course)), ("all", ("perhaps", course, course)), ("any", ("perhaps", course, course))]:
            self.assertIs(is_verdict(CART, HEARD, (kind, []), value), False, value)
        for kind in ("all", "any"):
            self.assertEqual(word_of(CART, AGAINST, (kind, [])), "clash")

    def test_no_terms(self):
        for kind in ("all", "any"):
            self.assertEqual([word_of(CART, HEARD, (kind, [([], most)])) for most in (-1, 0, 1)], ["never", "surely", "surely"])
        self.assertEqual(word_of(CART, HEARD, ("any", [([], -1), LOW])), "perhaps")
        self.assertEqual(word_of(CART, HEARD, ("all", [([], -1), LOW])), "never")

    def test_kept_with_equality(self):
        # At first it was from 2 to 6.
        self.assertEqual([word_of(CART, HEARD, ("all", [([(0, (1,))], most)])) for most in (1, 2, 5, 6)],
                         ["never", "perhaps", "perhaps", "surely"])
        self.assertEqual([word_of(CART, HEARD, ("any", [LOW, ([(0, (-1,))], -most)])) for most in (3, 4)], ["surely", "perhaps"])
        # Halves are no way out: at most 3, or at least 3 and a half, is not all.
        self.assertEqual(word_of(CART, HEARD, ("any", [LOW, ([(0, (-2,))], -7)])), "perhaps")
        self.assertEqual(word_of(CART, HEARD, ("all", [LOW, HIGH])), "perhaps")
        self.assertEqual(word_of(CART, HEARD, ("all", [([(0, (1,))], 3), ([(0, (-1,))], -4)])), "never")

    def test_eight(self):
        linears = [([(0, (-1,))], -k) for k in range(8)]
        self.assertEqual([word_of(CART, HEARD, (kind, linears)) for kind in ("all", "any")], ["never", "surely"])
        parts = [([(0, (-7,)), (1, (7,))], k) for k in range(8)]
        for kind in ("all", "any"):
            told = verdict(CART, HEARD, (kind, parts))
            self.assertEqual(told[0], "perhaps")
            self.assertTrue(is_verdict(CART, HEARD, (kind, parts), told))

    def test_mixes_of_three(self):
        """No two of three linears are enough, all three are."""
        plane = (2, 1, [], [], [])
        three = [([(0, (-1, 0))], 0), ([(0, (0, -1))], 0), ([(0, (1, 1))], 0)]
        told = verdict(plane, [], ("any", three))
        self.assertEqual(told[:2], ("surely", ([(1, 3)] * 3, [])))
        for k in range(3):
            self.assertEqual(word_of(plane, [], ("any", three[:k] + three[k + 1:])), "perhaps")

    def test_supposed_that_leave_no_course(self):
        for supposed in NOT_SUPPOSED:
            for saying in [("all", []), ("any", []), ("all", [LOW]), ("any", [LOW, HIGH])]:
                told = verdict(CART, HEARD, saying, supposed=supposed)
                self.assertEqual((told[0], len(told)), ("clash", 2))
                self.assertTrue(is_verdict(CART, HEARD, saying, told, supposed=supposed))
                self.assertFalse(is_verdict(CART, HEARD, saying, told))
            self.assertEqual(spells(CART, HEARD, (1,), 9, supposed=supposed), ["clash"] * 2)
            self.assertIsNone(first_surely(CART, HEARD, (1,), 9, supposed=supposed))
            self.assertEqual(by_paper(CART, HEARD, (1,), 9, supposed=supposed)[0], "clash")
            self.assertIsNone(by_when(CART, HEARD, (1,), 9, supposed=supposed))

    def test_without_end(self):
        free = (1, 2, [], [[]], [])
        for saying, word in [(("any", [LOW, HIGH]), "surely"), (("any", [LOW]), "perhaps"), (("all", [LOW, HIGH]), "perhaps"),
                             (("any", [LOW, ([(1, (-1,))], 5)]), "perhaps"), (("all", [LOW, ([(0, (-1,))], -4)]), "never")]:
            told = verdict(free, [], saying)
            self.assertEqual(told[0], word)
            self.assertTrue(is_right_verdict(free, [], saying, (), told))

    def test_by_name_alone(self):
        for call in [lambda: verdict(CART, HEARD, ("all", []), []), lambda: is_verdict(CART, HEARD, ("all", []), None, []),
                     lambda: word_of(CART, HEARD, ("all", []), []), lambda: spells(CART, HEARD, (1,), 0, []),
                     lambda: first_surely(CART, HEARD, (1,), 0, []), lambda: by_paper(CART, HEARD, (1,), 0, []),
                     lambda: is_by_paper(CART, HEARD, (1,), 0, None, []), lambda: by_when(CART, HEARD, (1,), 0, [])]:
            with self.assertRaises(TypeError):
                call()


class VerdictJudge(unittest.TestCase):
    CASES = [
        (CART, HEARD, ("all", [LOW]), ()), (CART, HEARD, ("any", [LOW, HIGH]), ()), (CART, HEARD, ("all", [LOW]), [LOW, HIGH]),
        (CART, HEARD, ("any", [([(0, (1,))], 1), ([], -1)]), ()), (CART, HEARD, ("all", [LOW, ([(0, (-1,))], -4)]), ()),
        (CART, AGAINST, ("any", [LOW]), ()), (CART, HEARD, ("all", []), ()), (CART, HEARD, ("any", []), [LOW])]

    def test_changed(self):
        for world, readings, saying, supposed in self.CASES:
            check_refusals(
                self, lambda value: is_verdict(world, readings, saying, value, supposed=supposed),
                verdict(world, readings, saying, supposed=supposed),
                lambda value: is_right_verdict(world, readings, saying, supposed, value),
                [("surely", None, None), ("never", [], []), ("perhaps", [], []), ("perhaps", None, None), ("clash", None),
                 ("surely", ([], []), []), ("surely",), ("never", 0, 0), (None, None, None), ([], [], []), (["all"], 1, 2)])

    def test_each_right_paper_is_taken(self):
        course, noughts = [[(5, 2)], [(4, 1)]], [(0, 1)] * 5
        # x at first is at most 6, so twice x is at most 12, at most 13 as well; a sum of rows may say more than it needs.
        first = [(0, 1), (0, 1), (1, 1), (1, 1), (0, 1)]
        more = [(1, 1), (0, 1), (2, 1), (2, 1), (0, 1)]
        for most, weights, expected in [(6, first, True), (7, first, True), (5, first, False), (9, more, False)]:
            self.assertIs(is_verdict(CART, HEARD, ("all", [([(0, (1,))], most)]), ("surely", [weights], course)), expected)
        self.assertIs(is_verdict(CART, HEARD, ("all", [([(0, (2,)), (1, (0,))][:1], 13)]),
                                 ("surely", [[(0, 1), (0, 1), (2, 1), (2, 1), (0, 1)]], course)), True)
        halves = ("surely", ([(1, 2), (1, 2)], noughts), course)
        self.assertIs(is_verdict(CART, HEARD, ("any", [LOW, HIGH]), halves), True)
        # What is mixed may leave room, too: at most 4, or at least 3.
        self.assertIs(is_verdict(CART, HEARD, ("any", [([(0, (1,))], 4), HIGH]), halves), True)
        self.assertIs(is_verdict(CART, HEARD, ("any", [([(0, (1,))], 2), HIGH]), halves), False)
        for shares in [[(1, 1), (0, 1)], [(1, 2), (1, 3)], [(1, 2)], [(3, 2), (-1, 2)], [(1, 2), (1, 2), (0, 1)]]:
            self.assertIs(is_verdict(CART, HEARD, ("any", [LOW, HIGH]), ("surely", (shares, noughts), course)), False)
        # Shares of a linear that is surely kept alone.
        self.assertIs(is_verdict(CART, HEARD, ("any", [([(0, (1,))], 6), LOW]),
                                 ("surely", ([(1, 1), (0, 1)], first), course)), True)
        far = [[(9, 1)], [(9, 1)]]
        self.assertIs(is_verdict(CART, HEARD, ("any", [LOW, HIGH]), ("surely", ([(1, 2), (1, 2)], noughts), far)), False)
        # "Never" has a weight for each known row and then one for each linear.
        bad = [([(0, (1,))], 1), ([(0, (1,))], 0)]
        weights = [(0, 1), (1, 1), (0, 1), (0, 1), (1, 1)]
        self.assertIs(is_verdict(CART, HEARD, ("all", bad), ("never", weights + [(1, 1), (0, 1)], course)), True)
        self.assertIs(is_verdict(CART, HEARD, ("all", bad), ("never", weights + [(1, 2), (1, 2)], course)), True)
        self.assertIs(is_verdict(CART, HEARD, ("all", bad), ("never", weights + [(1, 1)], course)), False)
        self.assertIs(is_verdict(CART, HEARD, ("all", bad), ("never", [weights + [(1, 1)]] * 2, course)), False)
        self.assertIs(is_verdict(CART, HEARD, ("any", bad), ("never", [weights + [(1, 1)]] * 2, course)), True)
        self.assertIs(is_verdict(CART, HEARD, ("any", bad), ("never", [weights + [(1, 1)]], course)), False)
        self.assertIs(is_verdict(CART, HEARD, ("any", bad), ("never", weights + [(1, 1), (0, 1)], course)), False)
        self.assertIs(is_verdict(CART, HEARD, ("any", bad), ("never", [weights + [(1, 1), (0, 1)], weights + [(0, 1), (1, 1)]],
                                                             course)), False)

    def test_of_nothing_else(self):
        """A verdict is refused for another saying, other readings, other linears supposed."""
        for _, world, readings, supposed, saying in made_sayings(203, 60):
            told = verdict(world, readings, saying, supposed=supposed)
            others = [(readings, (saying[0], saying[1][:-1]), supposed), (readings[:-1], saying, supposed),
                      (readings, saying, supposed[:-1]), (readings, ({"all": "any", "any": "all"}[saying[0]], saying[1]), supposed)]
            for other_readings, other_saying, other_supposed in others:
                taken = is_verdict(world, other_readings, other_saying, told, supposed=other_supposed)
                right = is_right_verdict(world, other_readings, other_saying, other_supposed, told) if taken else False
                self.assertIs(taken, right)


def is_right_by(world, readings, numbers, most, supposed, value):
    """Whether a BY PAPER shows what it says, reckoned apart."""
    def breaks(course, moments):
        if not is_known(world, readings, course, supposed=supposed):
            return False
        return all(sum(a * exact(b) for a, b in zip(numbers, stand)) > most for stand in course[:moments])
    if value[0] == "clash":
        return shows_clash(known_rows(world, readings, supposed=supposed), value[1])
    if value[0] == "open":
        return breaks(value[1], world[1])
    word, moment, told, course = value
    saying = ("any", linears_at(numbers, most, 0, moment))
    if word != "by" or told[0] != "surely" or not is_right_verdict(world, readings, saying, supposed, told):
        return False
    return course is None if moment == 0 else breaks(course, moment)


class When(unittest.TestCase):
    def test_made(self):
        counts = {"clash": 0, "open": 0, 0: 0, "later": 0, "not the same one": 0}
        for made, world, readings, _, supposed in made_questions(204, 300):
            numbers, most = made.direction(world[0]), made.number(-5, 7)
            before = repr((world, readings, supposed))
            told = by_paper(world, readings, numbers, most, supposed=supposed)
            self.assertTrue(is_right_by(world, readings, numbers, most, supposed, told), (world, readings, told))
            self.assertIs(is_by_paper(world, readings, numbers, most, told, supposed=supposed), True)
            words = spells(world, readings, numbers, most, supposed=supposed)
            for moment in range(world[1]):
                linears = linears_at(numbers, most, moment, moment)
                self.assertEqual(words[moment], word_of(world, readings, ("all", linears), supposed=supposed))
            surely = first_surely(world, readings, numbers, most, supposed=supposed)
            self.assertEqual(surely, words.index("surely") if "surely" in words else None)
            when = by_when(world, readings, numbers, most, supposed=supposed)
            self.assertEqual(when, told[1] if told[0] == "by" else None)
            if surely is not None:
                self.assertLessEqual(when, surely)
            if told[0] == "by":
                counts[0 if when == 0 else "later"] += 1
                counts["not the same one"] += words[when] != "surely"
            else:
                counts[told[0]] += 1
                self.assertIsNone(when)
            self.assertEqual(repr((world, readings, supposed)), before)
        self.assertGreater(counts.pop("not the same one"), 1)
        self.assertGreater(min(counts.values()), 15, counts)

    def test_first_moment(self):
        self.assertEqual([by_when(CART, HEARD, (-1,), most) for most in (-2, -3, -4, -5, -7)], [0, 1, 1, None, None])
        self.assertEqual([first_surely(CART, HEARD, (-1,), most) for most in (-2, -4, -5)], [0, 1, None])
        self.assertEqual([by_paper(CART, HEARD, (-1,), most)[0] for most in (-2, -4, -7)], ["by", "by", "open"])
        self.assertIsNone(by_paper(CART, HEARD, (-1,), -2)[3])
        self.assertIsNone(by_when(CART, AGAINST, (-1,), -2))
        self.assertEqual(spells(world=CART, readings=HEARD, numbers=(-1,), most=-4), ["perhaps", "surely"])

    def test_not_the_same_moment(self):
        # From -1 to 1 at first, then the other side of nought: it is at most 0 at one of both moments.
        world = (1, 2, [((1,), 1), ((-1,), 1)], [[((1, 1), 0), ((-1, -1), 0)]], [])
        self.assertEqual(spells(world, [], (1,), 0), ["perhaps", "perhaps"])
        self.assertIsNone(first_surely(world, [], (1,), 0))
        self.assertEqual(by_when(world, [], (1,), 0), 1)
        told = by_paper(world, [], (1,), 0)
        self.assertEqual((told[:2], told[2][0]), (("by", 1), "surely"))
        self.assertEqual(by_when(world, [], (1,), -1), None)
        self.assertEqual(by_when(world, [], (1,), 1), 0)

    def test_by_the_last_moment(self):
        falls = (1, 8, [((1,), 7), ((-1,), -7)], [[((-1, 1), -1), ((1, -1), 1)]] * 7, [])
        self.assertEqual([by_when(falls, [], (1,), most) for most in (7, 6, 0, -1)], [0, 1, 7, None])
        self.assertEqual(spells(falls, [], (1,), 0), ["never"] * 7 + ["surely"])
        self.assertEqual(by_paper(falls, [], (1,), -1)[0], "open")

    def test_supposed(self):
        supposed = [([(0, (-1,))], -4)]
        self.assertEqual(by_when(CART, HEARD, (-1,), -4, supposed=supposed), 0)
        self.assertEqual(first_surely(CART, HEARD, (-1,), -4, supposed=tuple(supposed)), 0)
        self.assertEqual(spells(CART, HEARD, (-1,), -4, supposed=supposed), ["surely", "surely"])

    def test_moved(self):
        for made, world, readings, _, _ in made_questions(205, 40):
            numbers, most = made.direction(world[0]), made.number(-4, 6)
            offset = made.numbers(world[0], 3)
            moved = world_moved(world, [offset] * world[1])
            there = readings_moved(world, readings, [offset] * world[1])
            amount = sum(a * b for a, b in zip(numbers, offset))
            self.assertEqual(by_when(moved, there, numbers, most + amount), by_when(world, readings, numbers, most))
            self.assertEqual(spells(moved, there, numbers, most + amount), spells(world, readings, numbers, most))


class ByJudge(unittest.TestCase):
    BACK = (1, 2, [((1,), 1), ((-1,), 1)], [[((1, 1), 0), ((-1, -1), 0)]], [])
    CASES = [(CART, HEARD, (-1,), -4, ()), (CART, HEARD, (-1,), -2, ()), (CART, HEARD, (-1,), -7, [LOW]), (CART, AGAINST, (1,), 0, ()),
             (BACK, [], (1,), 0, ())]

    def test_changed(self):
        for world, readings, numbers, most, supposed in self.CASES:
            check_refusals(
                self, lambda value: is_by_paper(world, readings, numbers, most, value, supposed=supposed),
                by_paper(world, readings, numbers, most, supposed=supposed),
                lambda value: is_right_by(world, readings, numbers, most, supposed, value),
                [("by", None, None, None), ("by", 0, None, None), ("by", 0, ("surely", ([], []), []), None), ("open", None),
                 ("open", []), ("by", True, ("surely",), None), ("by", 7, ("surely", ([], []), []), []), ("by",), ("open",)])

    def test_wrong_parts(self):
        word, moment, told, course = by_paper(CART, HEARD, (-1,), -4)
        later = by_paper(CART, HEARD, (-1,), -2)
        noughts = [(0, 1)] * 5
        self.assertIs(is_by_paper(CART, HEARD, (-1,), -4, (word, moment, told, None)), False)
        self.assertIs(is_by_paper(CART, HEARD, (-1,), -4, (word, 0, told, None)), False)
        self.assertIs(is_by_paper(CART, HEARD, (-1,), -2, later[:3] + (course,)), False)
        self.assertIs(is_by_paper(CART, HEARD, (-1,), -4, (word, moment, told, [[(5, 1)], [(5, 1)]])), False)
        self.assertIs(is_by_paper(CART, HEARD, (-1,), -4, (word, moment, told, [[(3, 1)], [(5, 1)]])), True)
        self.assertIs(is_by_paper(CART, HEARD, (-1,), -4, (word, moment, ("clash", noughts), course)), False)
        self.assertIs(is_by_paper(CART, HEARD, (-1,), -4, (word, 2, told, course)), False)
        # Moments that the world has not, with linears of noughts in their place.
        far, kept = [[(2, 1)], [(4, 1)]], ("surely", ([(0, 1), (0, 1), (1, 1)], noughts), course)
        for moment in (2, 3, 9):
            self.assertIs(is_by_paper(CART, HEARD, (1,), 0, (word, moment, kept, far)), False)
        # Kept by 1 is not by 0; what breaks all moments is known only where the paper is open.
        self.assertIs(is_by_paper(CART, HEARD, (-1,), -4, ("open", course)), False)
        self.assertIs(is_by_paper(CART, HEARD, (-1,), -7, ("open", [[(6, 1)], [(6, 1)]])), True)
        # A verdict of "surely" whose clash is shown where no course is known is none.
        clash = by_paper(CART, AGAINST, (-1,), -4)
        self.assertIs(is_by_paper(CART, AGAINST, (-1,), -4, ("by", 0, clash, None)), False)

    def test_any_value(self):
        for value in STRANGE:
            self.assertIs(is_by_paper(CART, HEARD, (-1,), -4, value), False)
            self.assertIs(is_by_paper(CART, HEARD, (-1,), -4, ("by", value, value, value)), False)
            self.assertIs(is_by_paper(CART, HEARD, (-1,), -4, ("open", value)), False)
            self.assertIs(is_verdict(CART, HEARD, ("any", [LOW, HIGH]), ("surely", value, [[(5, 2)], [(4, 1)]])), False)
            self.assertIs(is_verdict(CART, HEARD, ("all", [LOW, HIGH]), ("perhaps", value, value)), False)


class Shares(unittest.TestCase):
    def test_a_mix_bars_each_course_that_breaks_all(self):
        """All known courses keep "any" exactly if some mix of the rows follows."""
        count = 0
        for made, world, readings, supposed, saying in made_sayings(206, 120):
            told = verdict(world, readings, ("any", saying[1]), supposed=supposed)
            for course in allowed_courses(made, world, readings, 4):
                if is_known(world, readings, course, supposed=supposed):
                    broken = not any(keeps_linear(linear, course) for linear in saying[1])
                    self.assertFalse(broken and told[0] == "surely")
                    count += 1
        self.assertGreater(count, 100)


if __name__ == "__main__":
    unittest.main()
