"""News of readings, quiet ones, readings thinned by both ways, thin papers and their judges, thinned to a loss."""

import unittest
from itertools import combinations

from allreadings.allrows import all_rows, placed_at, reading_rows
from allreadings.courses import course_of
from allreadings.errors import NoCourse, StrangeLabel, TooMany
from allreadings.plans import width_of
from allreadings.thinning import is_news, is_thin_paper, news, quiet_labels, thin_paper, thinned, thinned_plain, thinned_to
from tests.apart import allows_apart, check_refusals, shows_clash, shows_row
from tests.made import STRANGE, exact, made_conflicts
from tests.test_conflicts import lots_of
from tests.test_courses import GROW

MORE = [("r1", "a", 1, (5, 1)), ("r2", "a", 1, (5, 1)), ("r3", "a", 0, (9, 2))]
AGAINST = (1, 2, [((1,), -1), ((-1,), 0)], [[]], [("a", (1,), (1, 1))])


def with_label(readings, labels):
    return [reading for reading in readings if reading[0] in labels]


def without_label(readings, label):
    return [reading for reading in readings if reading[0] != label]


def is_right_news(world, readings, label, value):
    """Whether news show what they say, reckoned apart."""
    others = without_label(readings, label)
    system = all_rows(world, others)
    if value[0] == "clash":
        return len(value) == 2 and shows_clash(system, value[1])
    if value[0] == "new":
        return len(value) == 2 and allows_apart(world, others, value[1]) and not allows_apart(world, readings, value[1])
    reading = with_label(readings, [label])[0]
    rows = [placed_at(world, reading[2], row) for row in reading_rows(world, reading)]
    return value[0] == "nothing" and len(value) == 3 and all(shows_row(system, row, told) for row, told in zip(rows, value[1:]))


def is_right_thin(world, readings, lot, value):
    others = [label for label in sorted(reading[0] for reading in readings) if label not in lot]
    return len(value) == len(others) and all(
        told[0] != "new" and is_right_news(world, with_label(readings, lot + [label]), label, told)
        for label, told in zip(others, value))


class News(unittest.TestCase):
    def test_made(self):
        words = {"clash": 0, "nothing": 0, "new": 0}
        for made, world, readings in made_conflicts(301, 120):
            before = repr((world, readings))
            quiet = []
            for label, _, _, _ in readings:
                told = news(world=world, readings=readings, label=label)
                words[told[0]] += 1
                self.assertTrue(is_right_news(world, readings, label, told))
                self.assertIs(is_news(world=world, readings=readings, label=label, value=told), True)
                others = without_label(readings, label)
                self.assertIs(told[0] == "clash", course_of(world, others) is None)
                quiet += [label] if told[0] != "new" else []
                self.assertEqual(news(world, made.mixed_up(readings), label)[0], told[0])
            self.assertEqual(quiet_labels(world=world, readings=readings), sorted(quiet))
            more = readings + [("zz",) + reading[1:] for reading in readings[:1]]
            for label in [readings[0][0], "zz"] if readings else []:
                self.assertNotEqual(news(world, more, label)[0], "new")
            self.assertEqual(repr((world, readings)), before)
        self.assertGreater(min(words.values()), 40, words)

    def test_strange(self):
        for readings in ([], MORE):
            with self.assertRaises(StrangeLabel) as caught:
                news(GROW, readings, "q")
            self.assertEqual(caught.exception.label, "q")

    def test_edges(self):
        self.assertEqual([news(GROW, MORE, label)[0] for label in ["r1", "r2", "r3"]], ["nothing", "nothing", "new"])
        self.assertEqual(quiet_labels(GROW, MORE), ["r1", "r2"])
        self.assertEqual(quiet_labels(GROW, []), [])
        # Alike in all but the label, and at odds with a third one: all are quiet but for what each other one allows.
        odd = MORE + [("r4", "a", 0, (90, 1))]
        self.assertEqual([news(GROW, odd, label)[0] for label in ["r1", "r2", "r3", "r4"]], ["clash", "clash", "clash", "new"])
        self.assertEqual(quiet_labels(GROW, odd), ["r1", "r2", "r3"])
        self.assertEqual([news(AGAINST, MORE, label)[0] for label in ["r1", "r3"]], ["clash", "clash"])
        self.assertEqual(news(GROW, MORE[2:], "r3")[0], "new")

    def test_nothing_where_the_others_allow_no_course(self):
        odd = MORE[:2] + [("r4", "a", 0, (90, 1))]
        rows = len(all_rows(GROW, odd[1:])[1])
        one = [(int(k == 3), 1) for k in range(rows)]
        two = [(int(k == 4), 1) for k in range(rows)]
        self.assertIs(is_news(GROW, odd, "r1", ("nothing", one, two)), True)
        self.assertIs(is_news(GROW, odd, "r1", ("nothing", two, one)), False)
        self.assertEqual(news(GROW, odd, "r1")[0], "clash")
        self.assertIs(is_news(GROW, odd, "r4", ("nothing", one, two)), False)

    def test_changed(self):
        odd = MORE + [("r4", "a", 0, (90, 1))]
        for world, readings, label in [(GROW, MORE, "r1"), (GROW, MORE, "r3"), (GROW, odd, "r2"), (AGAINST, MORE, "r1")]:
            check_refusals(self, lambda value: is_news(world, readings, label, value), news(world, readings, label),
                           lambda value: is_right_news(world, readings, label, value),
                           [("nothing", [], []), ("nothing", None, None), ("new", []), ("new", None), ("clash", None), ("nothing",), ("new",)])

    def test_of_nothing_else(self):
        for made, world, readings in made_conflicts(302, 40):
            for label, _, _, _ in readings:
                told = news(world, readings, label)
                for other in readings:
                    self.assertIs(is_news(world, readings, other[0], told), is_right_news(world, readings, other[0], told))


class Thinned(unittest.TestCase):
    def test_made(self):
        counts = {"all": 0, "none": 0, "some": 0, "clash": 0}
        for made, world, readings in made_conflicts(303, 110, 6):
            before = repr((world, readings))
            system = all_rows(world, readings)[1]
            sufficing = []
            for lot in lots_of(readings):
                paper = thin_paper(world=world, readings=readings, lot=lot)
                if paper is not None:
                    sufficing.append(lot)
                    self.assertTrue(is_right_thin(world, readings, lot, paper))
                    self.assertIs(is_thin_paper(world=world, readings=readings, lot=lot, value=paper), True)
                else:
                    self.assertIs(is_thin_paper(world, readings, lot, []), False)
                    point = course_of(world, with_label(readings, lot))
                    self.assertIsNotNone(point)
            first = sufficing[0]
            self.assertEqual(thinned(world=world, readings=readings), first)
            self.assertEqual(thinned_plain(world=world, readings=readings), first)
            loud = [reading[0] for reading in readings if reading[0] not in quiet_labels(world, readings)]
            self.assertTrue(all(set(loud) <= set(lot) for lot in sufficing))
            # A lot that suffices allows the same courses: both have a course, and each other reading is quiet beside it.
            for lot in sufficing[:4]:
                kept = with_label(readings, lot)
                self.assertIs(course_of(world, kept) is None, course_of(world, readings) is None)
                for label in [reading[0] for reading in readings if reading[0] not in lot]:
                    self.assertNotEqual(news(world, kept + with_label(readings, [label]), label)[0], "new")
            self.assertEqual(thinned(world, made.mixed_up(readings)), first)
            self.assertEqual(repr((world, readings, system)), repr((world, readings, all_rows(world, readings)[1])))
            self.assertEqual(repr((world, readings)), before)
            clash = course_of(world, readings) is None
            counts["clash" if clash else "none" if not first else "all" if len(first) == len(readings) else "some"] += 1
        self.assertGreater(min(counts.values()), 10, counts)

    def test_edges(self):
        for function in (thinned, thinned_plain):
            self.assertEqual(function(GROW, MORE), ["r1", "r3"])
            self.assertEqual(function(GROW, list(reversed(MORE))), ["r1", "r3"])
            self.assertEqual([function(GROW, []), function(AGAINST, MORE)], [[], []])
            # Of readings that are alike the first one is left; one that says nothing goes.
            self.assertEqual(function(GROW, [("b", "a", 0, (7, 1)), ("a", "a", 0, (7, 1))]), ["a"])
            self.assertEqual(function((1, 1, [((1,), 1), ((-1,), 1)], [], [("a", (1,), (1, 1))]), [("r", "a", 0, (0, 1))]), [])
            # Of lots that clash the first of the fewest labels.
            odd = MORE + [("r4", "a", 0, (90, 1)), ("r5", "a", 0, (70, 1))]
            self.assertEqual(function(GROW, odd), ["r1", "r4"])
            self.assertEqual(function(GROW, MORE + [("r0", "a", 0, (-9, 1))]), ["r0"])
        self.assertEqual(thin_paper(GROW, MORE, ["r1", "r2", "r3"]), [])
        self.assertIsNone(thin_paper(GROW, MORE, ["r1", "r2"]))
        self.assertEqual([told[0] for told in thin_paper(GROW, MORE, ["r2", "r3"])], ["nothing"])
        self.assertEqual([told[0] for told in thin_paper(AGAINST, MORE, [])], ["clash"] * 3)

    def test_ten_and_eleven(self):
        ten = [(f"r{k}", "a", k % 2, (5 + k % 3, 1)) for k in range(10)]
        expected = thinned_plain(GROW, ten)
        self.assertEqual(thinned(GROW, ten), expected)
        self.assertEqual(thinned_to(GROW, ten, (1, 0), (99, 1)), ["r0"])
        eleven = ten + [("s", "a", 0, (5, 1))]
        for call in [lambda told: thinned(GROW, told), lambda told: thinned_plain(GROW, told),
                     lambda told: thinned_to(GROW, told, (1, 0), (0, 1))]:
            with self.assertRaises(TooMany) as caught:
                call(eleven)
            self.assertEqual((caught.exception.what, caught.exception.limit), ("readings", 10))
        with self.assertRaises(NoCourse):
            thinned_to(GROW, eleven + [("t", "a", 0, (90, 1))], (1, 0), (0, 1))
        self.assertEqual(len(quiet_labels(GROW, eleven)), len([one for one in eleven if news(GROW, eleven, one[0])[0] != "new"]))
        lot = sorted(reading[0] for reading in ten)
        self.assertIs(is_thin_paper(GROW, eleven, lot, thin_paper(GROW, eleven, lot)), True)

    def test_papers_changed(self):
        odd = MORE + [("r4", "a", 0, (90, 1))]
        for world, readings, lot in [(GROW, MORE, ["r1", "r3"]), (GROW, odd, ["r1", "r4"]), (GROW, MORE, ["r1", "r2", "r3"])]:
            paper = thin_paper(world, readings, lot)
            check_refusals(self, lambda value: is_thin_paper(world, readings, lot, value), paper,
                           lambda value: is_right_thin(world, readings, lot, value),
                           [[None], [("nothing", [], [])], [("new", [])], [("clash", None), ("clash", None)], ("nothing", [], [])])
        first, second = thin_paper(GROW, odd, ["r1", "r4"])
        for value in [[first], [second], [first, second, second], [first, ("new", [[(90, 1)], [(90, 1)]])], [first, None]]:
            self.assertIs(is_thin_paper(GROW, odd, ["r1", "r4"], value), False)
        self.assertIs(is_thin_paper(GROW, odd, ["r1", "r3"], [first, second]), False)
        for value in STRANGE:
            self.assertIs(is_thin_paper(GROW, odd, ["r1", "r4"], [first, value]), False)

    def test_a_lot_that_does_not_suffice_has_no_paper(self):
        told = news(GROW, MORE, "r3")
        self.assertEqual(told[0], "new")
        self.assertIs(is_thin_paper(GROW, MORE, ["r1", "r2"], [told]), False)


class ThinnedTo(unittest.TestCase):
    def test_made(self):
        counts = {"endless": 0, "none": 0, "all": 0, "some": 0}
        for made, world, readings in made_conflicts(304, 110, 6):
            numbers = made.one_of([made.numbers(world[0] * world[1], 1), (1,) + (0,) * (world[0] * world[1] - 1)])
            loss = (made.one_of([0, 0, 1, 3]), made.one_of([1, 2]))
            loss = (loss[0], 1) if loss[0] % 2 == 0 else loss
            if course_of(world, readings) is None:
                with self.assertRaises(NoCourse):
                    thinned_to(world, readings, numbers, loss)
                continue
            lot = thinned_to(world=world, readings=readings, numbers=numbers, loss=loss)
            width = width_of(world, readings, numbers)
            if width is None:
                counts["endless"] += 1
                self.assertEqual(lot, [])
                continue
            labels = sorted(reading[0] for reading in readings)
            right = []
            for size in range(len(labels) + 1):
                for names in combinations(labels, size):
                    other = width_of(world, with_label(readings, names), numbers)
                    if other is not None and exact(other) <= exact(width) + exact(loss):
                        right.append(list(names))
            self.assertEqual(lot, right[0])
            counts["none" if not lot else "all" if lot == labels else "some"] += 1
        self.assertGreater(min(counts.values()), 5, counts)

    def test_edges(self):
        self.assertEqual([thinned_to(GROW, MORE, (1, 0), loss) for loss in [(0, 1), (1, 1), (3, 2), (2, 1)]],
                         [["r3"], ["r3"], ["r3"], ["r1"]])
        self.assertEqual([thinned_to(GROW, MORE, (0, 1), loss) for loss in [(0, 1), (1, 1), (2, 1)]], [["r1"], ["r1"], ["r1"]])
        self.assertEqual([thinned_to(GROW, MORE, (1, 1), loss) for loss in [(0, 1), (1, 1)]], [["r1", "r3"], ["r1", "r3"]])
        self.assertEqual([thinned_to(GROW, MORE, (0, 0), (0, 1)), thinned_to(GROW, [], (1, 0), (9, 1))], [[], []])
        self.assertEqual(thinned_to(GROW, MORE, (-1, 1), (0, 1)), ["r1", "r3"] if width_of(GROW, MORE, (-1, 1)) != (2, 1) else [])
        for readings in [MORE, []]:
            with self.assertRaises(NoCourse):
                thinned_to(AGAINST, readings, (1, 0), (0, 1))


if __name__ == "__main__":
    unittest.main()
