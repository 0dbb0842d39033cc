"""Rulings on claims, watch papers, and watches that hear readings one by one."""

import unittest

from allreadings.allrows import all_rows
from allreadings.courses import course_of
from allreadings.errors import HeardAlready
from allreadings.watches import Watch, is_ruling, is_watch_paper, ruling, watch_paper, watched
from tests.apart import allows_apart, check_refusals, keeps_apart, shows_clash, shows_row, sum_apart
from tests.made import STRANGE, changed, doubled, made_conflicts
from tests.test_courses import GROW, allowed_courses

HEARD = [("r1", "a", 1, (5, 1)), ("r2", "a", 0, (-3, 1))]
CLAIM = ((1, 0), 6)
AGAINST = (1, 2, [((1,), -1), ((-1,), 0)], [[]], [("a", (1,), (1, 1))])


def is_right_ruling(world, readings, claim, value):
    """Whether a ruling shows what it says, reckoned apart."""
    system = all_rows(world, readings)
    if value[0] == "open":
        _, kept, broken = value
        return (allows_apart(world, readings, kept) and allows_apart(world, readings, broken)
                and keeps_apart(claim, kept) and not keeps_apart(claim, broken))
    word, weights = value
    if word == "clash":
        return shows_clash(system, weights)
    if word == "surely":
        return shows_row(system, claim, weights)
    told = sum_apart(system, weights)
    return word == "never" and told is not None and told[0] == [-number for number in claim[0]] and told[1] < -claim[1]


def is_right_watch_paper(world, readings, claim, value):
    if value[0] == "open":
        return len(value) == 2 and value[1][0] == "open" and is_right_ruling(world, readings, claim, value[1])
    word, many, told, before = value
    if word != "settled" or not 0 <= many <= len(readings) or told[0] == "open":
        return False
    if not is_right_ruling(world, readings[:many], claim, told):
        return False
    if many == 0:
        return before is None
    return before[0] == "open" and is_right_ruling(world, readings[:many - 1], claim, before)


def made_claims(seed, count):
    for made, world, readings in made_conflicts(seed, count):
        numbers, most = made.row(world[0] * world[1], 1)
        if made.number(0, 2) == 0:
            # A claim about one number alone is settled more often.
            place = made.number(0, len(numbers) - 1)
            numbers = tuple(made.one_of([1, -1]) if k == place else 0 for k in range(len(numbers)))
        yield made, world, readings, (numbers, most + made.one_of([0, 0, 4, -4]))


class Rulings(unittest.TestCase):
    def test_made(self):
        words = {"clash": 0, "surely": 0, "never": 0, "open": 0}
        for made, world, readings, claim in made_claims(281, 300):
            before = repr((world, readings, claim))
            told = ruling(world=world, readings=readings, claim=claim)
            words[told[0]] += 1
            self.assertTrue(is_right_ruling(world, readings, claim, told))
            self.assertIs(is_ruling(world=world, readings=readings, claim=claim, value=told), True)
            self.assertIs(told[0] == "clash", course_of(world, readings) is None)
            self.assertEqual(ruling(world, doubled(made.mixed_up(readings)), claim)[0], told[0])
            for course in allowed_courses(made, world, readings, 3):
                if allows_apart(world, readings, course) and told[0] in ("surely", "never"):
                    self.assertIs(keeps_apart(claim, course), told[0] == "surely")
            for other in [(claim[0], claim[1] + 9), (claim[0], claim[1] - 9), (tuple(-a for a in claim[0]), -claim[1])]:
                self.assertIs(is_ruling(world, readings, other, told), is_right_ruling(world, readings, other, told))
            self.assertEqual(repr((world, readings, claim)), before)
        self.assertGreater(min(words.values()), 20, words)

    def test_one_more_reading(self):
        steps = {}
        for _, world, readings, claim in made_claims(282, 200):
            words = watched(world=world, readings=readings, claim=claim)
            self.assertEqual(words, [ruling(world, readings[:many], claim)[0] for many in range(len(readings) + 1)])
            for one, other in zip(words, words[1:]):
                self.assertIn(other, {"open": ("open", "surely", "never", "clash"), "surely": ("surely", "clash"),
                                      "never": ("never", "clash"), "clash": ("clash",)}[one])
                steps[one, other] = steps.get((one, other), 0) + 1
        self.assertEqual(len(steps), 9, steps)

    def test_edges(self):
        self.assertEqual(watched(GROW, HEARD, CLAIM), ["open", "surely", "clash"])
        self.assertEqual([ruling(GROW, HEARD[:1], ((1, 0), most))[0] for most in (1, 2, 5, 6)], ["never", "open", "open", "surely"])
        self.assertEqual([ruling(GROW, HEARD[:1], ((-2, 0), most))[0] for most in (-13, -12, -5, -4)],
                         ["never", "open", "open", "surely"])
        # A claim of noughts.
        for readings in ([], HEARD[:1]):
            self.assertEqual([ruling(GROW, readings, ((0, 0), most))[0] for most in (-1, 0, 1)], ["never", "surely", "surely"])
        self.assertEqual(ruling(GROW, HEARD, ((0, 0), 0))[0], "clash")
        free = (1, 1, [], [], [])
        told = ruling(free, [], ((1,), 3))
        self.assertTrue(told[0] == "open" and is_ruling(free, [], ((1,), 3), told))
        self.assertEqual([ruling(AGAINST, readings, ((1, 0), 0))[0] for readings in ([], HEARD[:1])], ["clash"] * 2)

    def test_also_where_no_course_is_allowed(self):
        """The judge takes "surely" and "never" where there is a clash, too."""
        rows = len(all_rows(GROW, HEARD)[1])
        noughts = [(0, 1)] * rows
        surely = ("surely", [(0, 1), (1, 1), (0, 1), (1, 1)] + noughts[4:])
        self.assertIs(is_ruling(GROW, HEARD, CLAIM, surely), True)
        # x at first is at least nought, so it is more than -1.
        never = ("never", [(1, 1)] + noughts[1:])
        self.assertIs(is_ruling(GROW, HEARD, ((1, 0), -1), never), True)
        self.assertIs(is_ruling(GROW, HEARD, ((1, 0), 0), never), False)
        clash = ruling(GROW, HEARD, CLAIM)
        self.assertEqual(clash[0], "clash")
        for claim in [CLAIM, ((7, 7), -9)]:
            self.assertIs(is_ruling(GROW, HEARD, claim, clash), True)
        self.assertIs(is_ruling(GROW, HEARD[:1], CLAIM, ("clash", clash[1][:5])), False)


class Papers(unittest.TestCase):
    CASES = [(GROW, HEARD, CLAIM), (GROW, HEARD, ((1, 0), 3)), (GROW, HEARD[:1], ((1, 0), 3)), (GROW, HEARD, ((-1, 0), 0)),
             (AGAINST, HEARD, CLAIM), (GROW, [], CLAIM), (GROW, HEARD[:1], ((1, 0), 1))]

    def test_made(self):
        counts = {"open": 0, "at 0": 0, "between": 0, "at the last": 0}
        for _, world, readings, claim in made_claims(283, 300):
            paper = watch_paper(world=world, readings=readings, claim=claim)
            words = watched(world, readings, claim)
            self.assertTrue(is_right_watch_paper(world, readings, claim, paper))
            self.assertIs(is_watch_paper(world=world, readings=readings, claim=claim, value=paper), True)
            settled = [many for many, word in enumerate(words) if word != "open"]
            if not settled:
                counts["open"] += 1
                self.assertEqual(paper[0], "open")
                continue
            many = settled[0]
            self.assertEqual(paper[:2] + (paper[2][0],), ("settled", many, words[many]))
            counts["at 0" if many == 0 else "at the last" if many == len(readings) else "between"] += 1
            if many < len(readings):
                self.assertIs(is_watch_paper(world, readings[:many], claim, paper), True)
            for other in (many - 1, many + 1):
                if 0 <= other <= len(readings):
                    value = ("settled", other, paper[2], paper[3])
                    self.assertIs(is_watch_paper(world, readings, claim, value), False)
        self.assertGreater(min(counts.values()), 20, counts)

    def test_judges_changed(self):
        for world, readings, claim in self.CASES:
            check_refusals(self, lambda value: is_ruling(world, readings, claim, value), ruling(world, readings, claim),
                           lambda value: is_right_ruling(world, readings, claim, value),
                           [("open", [], []), ("open", None, None), ("surely", None), ("never", None), ("surely", []), ("never",), ("open",)])
            check_refusals(self, lambda value: is_watch_paper(world, readings, claim, value), watch_paper(world, readings, claim),
                           lambda value: is_right_watch_paper(world, readings, claim, value),
                           [("settled", None, None, None), ("settled", 0, None, None), ("settled", 0, ("surely", []), None),
                            ("settled", True, None, None), ("open", None), ("open", ("open",)), ("settled",), ("open",),
                            ("settled", 9, ("clash", []), ("open", [], []))])

    def test_parts_exchanged(self):
        word, many, told, before = watch_paper(GROW, HEARD, CLAIM)
        self.assertEqual((word, many, told[0], before[0]), ("settled", 1, "surely", "open"))
        clash = ruling(GROW, HEARD, CLAIM)
        for value in [(word, many, before, told), (word, many, told, None), (word, 2, clash, told), (word, 2, clash, before),
                      (word, 0, told, None), ("open", told), ("open", before), (word, many, before, before), (word, many, told),
                      (word, 2, told, before), (word, many, told, told), ("open", clash)]:
            self.assertIs(is_watch_paper(GROW, HEARD, CLAIM, value), False, value)
        for value in STRANGE:
            for other in [(word, value, told, before), (word, many, value, before), (word, many, told, value), ("open", value)]:
                if repr(other) != repr((word, many, told, before)):
                    self.assertIs(is_watch_paper(GROW, HEARD, CLAIM, other), False, other)
        # Any two courses will do for the ruling in front.
        other = ("open", [[(0, 1)], [(0, 1)]], [[(50, 1)], [(51, 1)]])
        self.assertIs(is_watch_paper(GROW, HEARD, CLAIM, (word, many, told, other)), True)

    def test_settled_by_a_clash_or_a_ruling(self):
        """With a reading that settles by a clash, what the judge takes as "surely" is a right ruling as well."""
        claim = ((1, 0), -4)
        self.assertEqual(watched(GROW, HEARD, claim), ["never"] * 2 + ["clash"])
        low = [("r", "a", 0, (-9, 1))]
        self.assertEqual(watched(GROW, low, ((1, 0), 3)), ["open", "clash"])
        paper = watch_paper(GROW, low, ((1, 0), 3))
        self.assertEqual(paper[2][0], "clash")
        upper = ("surely", [(0, 1)] * 3 + [(1, 1), (0, 1)])
        self.assertIs(is_watch_paper(GROW, low, ((1, 0), 3), paper[:2] + (upper, paper[3])), True)


class Watches(unittest.TestCase):
    def test_made(self):
        for _, world, readings, claim in made_claims(284, 60):
            watch = Watch(world=world, claim=claim)
            self.assertEqual((watch.heard(), watch.word()), ([], watched(world, [], claim)[0]))
            for many, word in enumerate(watched(world, readings, claim)[1:]):
                self.assertEqual(watch.hear(reading=readings[many]), word)
                self.assertEqual(watch.word(), word)
                self.assertEqual(watch.heard(), [reading[0] for reading in readings[:many + 1]])
                self.assertIs(is_ruling(world, readings[:many + 1], claim, watch.ruling_now()), True)
                self.assertEqual(watch.ruling_now()[0], word)
                self.assertIs(is_watch_paper(world, readings[:many + 1], claim, watch.paper()), True)
            self.assertEqual(watch.paper(), watch.paper())

    def test_heard_already(self):
        watch = Watch(GROW, CLAIM)
        self.assertEqual([watch.hear(HEARD[0]), watch.heard()], ["surely", ["r1"]])
        for reading in [HEARD[0], ("r1", "a", 0, (9, 1))]:
            with self.assertRaises(HeardAlready) as caught:
                watch.hear(reading)
            self.assertEqual(caught.exception.label, "r1")
        self.assertEqual([watch.word(), watch.heard(), watch.hear(HEARD[1]), watch.heard()], ["surely", ["r1"], "clash", ["r1", "r2"]])
        self.assertEqual(Watch(GROW, CLAIM).heard(), [])

    def test_thirty(self):
        watch = Watch(GROW, ((1, 0), 2))
        words = [watch.hear((f"r{k}", "a", k % 2, (1, 1))) for k in range(30)]
        self.assertEqual((words[0], words[-1], len(watch.heard())), ("surely", "surely", 30))

    def test_nothing_is_shared(self):
        world = (1, 2, [((-1,), 0)], [[((1, -1), 0), ((-1, 1), 2)]], [("a", (1,), (1, 1))])
        watch = Watch(world, CLAIM)
        watch.hear(HEARD[0])
        world[2].append(((1,), -5))
        world[3][0].clear()
        world[4].clear()
        watch.heard().append("z")
        self.assertEqual([watch.word(), watch.heard()], ["surely", ["r1"]])
        watch.ruling_now()[1].clear()
        watch.paper()[2][1].clear()
        self.assertIs(is_watch_paper(GROW, HEARD[:1], CLAIM, watch.paper()), True)
        self.assertIs(is_ruling(GROW, HEARD[:1], CLAIM, watch.ruling_now()), True)


class Changes(unittest.TestCase):
    def test_papers_of_made_inputs_changed(self):
        """Papers with one place changed are taken only if they are right still."""
        for _, world, readings, claim in made_claims(285, 12):
            paper = watch_paper(world, readings, claim)
            for k, other in enumerate(changed(paper)):
                if k % 7 == 0 and is_watch_paper(world, readings, claim, other):
                    self.assertTrue(is_right_watch_paper(world, readings, claim, other))


if __name__ == "__main__":
    unittest.main()
