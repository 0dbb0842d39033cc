"""Repairs, all least lots and repairs at once, conflict papers and their judge."""

import unittest

from allreadings.allrows import all_rows
from allreadings.conflicts import least_lots_plain, lot_by_papers, lot_holds, other_lot, readings_of
from allreadings.errors import TooMany
from allreadings.hitting import least_hitting, least_hitting_plain
from allreadings.repairs import conflict_paper, fewest_repairs, is_conflict_paper, is_repair, lots_and_repairs
from tests.apart import allows_apart, check_refusals, shows_clash
from tests.made import STRANGE, doubled, made_conflicts
from tests.test_conflicts import AGAINST, PLANE, ROUND, THREE, is_in, lots_of
from tests.test_courses import GROW


def is_right_paper(world, readings, value):
    """Whether a conflict paper is as the document tells it, reckoned apart."""
    lots, repairs = value
    alls = lots_of(readings)
    for told in (lots, repairs):
        names = [lot for lot, _ in told]
        if any(lot not in alls for lot in names) or names != sorted(names):
            return False
        if any(is_in(one, other) for k, one in enumerate(names) for j, other in enumerate(names) if j != k):
            return False
    if not all(shows_clash(all_rows(world, readings_of(readings, lot)), weights) for lot, weights in lots):
        return False
    if not all(allows_apart(world, readings_of(readings, other_lot(readings, lot)), course) for lot, course in repairs):
        return False
    return all(any(is_in(other, lot) for other, _ in lots) or any(not set(lot) & set(other) for other, _ in repairs)
               for lot in alls)


class Repairs(unittest.TestCase):
    def test_made(self):
        counts = {"whole": 0, "none": 0, "one": 0, "more": 0}
        for made, world, readings in made_conflicts(231, 80, 6):
            before = repr((world, readings))
            lots, repairs = lots_and_repairs(world=world, readings=readings)
            self.assertEqual(lots, least_lots_plain(world, readings))
            right = [lot for lot in lots_of(readings) if lot_holds(world, readings, other_lot(readings, lot))]
            least = sorted(lot for lot in right if not any(set(other) < set(lot) for other in right))
            self.assertEqual(repairs, least)
            self.assertEqual((repairs, lots), (least_hitting(lots), least_hitting(repairs)))
            self.assertEqual(repairs, least_hitting_plain(lots))
            for lot in lots_of(readings):
                self.assertIs(is_repair(world=world, readings=readings, lot=lot), lot in right)
                self.assertIs(lot in right, all(set(lot) & set(other) for other in lots))
            fewest = min((len(lot) for lot in repairs), default=0)
            self.assertEqual(fewest_repairs(world, readings), [lot for lot in repairs if len(lot) == fewest])
            paper = conflict_paper(world=world, readings=readings)
            self.assertEqual(([lot for lot, _ in paper[0]], [lot for lot, _ in paper[1]]), (lots, repairs))
            self.assertTrue(is_right_paper(world, readings, paper))
            self.assertIs(is_conflict_paper(world, readings, paper), True)
            self.assertEqual(lots_and_repairs(world, made.mixed_up(readings)), (lots, repairs))
            for other in [readings[:-1], doubled(readings)]:
                # What shows nothing of the reading that was left out or put in may be right still.
                self.assertIs(is_conflict_paper(world, other, paper), is_right_paper(world, other, paper))
            self.assertEqual(repr((world, readings)), before)
            counts["whole" if repairs == [[]] else "none" if not repairs else "one" if len(repairs) == 1 else "more"] += 1
        self.assertGreater(min(counts.values()), 2, counts)
        self.assertGreater(counts["more"], 10, counts)

    def test_edges(self):
        self.assertEqual((lots_and_repairs(GROW, []), fewest_repairs(GROW, [])), (([], [[]]), [[]]))
        self.assertEqual(lots_and_repairs(GROW, THREE[:1]), ([], [[]]))
        self.assertEqual(lots_and_repairs(PLANE, ROUND), ([["r1", "r2", "r3"]], [["r1"], ["r2"], ["r3"]]))
        self.assertEqual(fewest_repairs(PLANE, ROUND), [["r1"], ["r2"], ["r3"]])
        self.assertEqual(fewest_repairs(GROW, THREE), [["r2"]])
        one = [("r", "a", 0, (-5, 1)), ("s", "a", 1, (1, 1))]
        self.assertEqual(lots_and_repairs(GROW, one), ([["r"]], [["r"]]))
        for readings in [[], THREE]:
            self.assertEqual(lots_and_repairs(AGAINST, readings), ([[]], []))
            self.assertEqual(fewest_repairs(AGAINST, readings), [])
            self.assertEqual(conflict_paper(AGAINST, readings)[1], [])
            self.assertTrue(is_conflict_paper(AGAINST, readings, conflict_paper(AGAINST, readings)))
            self.assertFalse(any(is_repair(AGAINST, readings, lot) for lot in lots_of(readings)))

    def test_ten_and_eleven(self):
        readings = [(f"r{k}", "a", 0, (3 * (k % 3), 1)) for k in range(10)]
        lots, repairs = lots_and_repairs(GROW, readings)
        self.assertEqual(lots, least_lots_plain(GROW, readings))
        groups = [sorted(f"r{k}" for k in range(10) if k % 3 != rest) for rest in range(3)]
        self.assertEqual(repairs, sorted(groups))
        self.assertEqual(fewest_repairs(GROW, readings), [sorted(f"r{k}" for k in range(10) if k % 3 != 0)])
        self.assertTrue(is_conflict_paper(GROW, readings, conflict_paper(GROW, readings)))
        more = readings + [("s", "a", 0, (0, 1))]
        for function in (lots_and_repairs, fewest_repairs, conflict_paper):
            with self.assertRaises(TooMany) as caught:
                function(GROW, more)
            self.assertEqual((caught.exception.what, caught.exception.limit), ("readings", 10))
        self.assertIs(is_conflict_paper(GROW, more, ([], [])), False)
        still = [(f"r{k}", "a", 0, (0, 1)) for k in range(11)]
        self.assertIs(is_conflict_paper(GROW, still, ([], [([], [[(0, 1)], [(0, 1)]])])), False)
        self.assertIs(is_conflict_paper(GROW, still[:10], ([], [([], [[(0, 1)], [(0, 1)]])])), True)
        self.assertIs(is_repair(GROW, more, [f"r{k}" for k in range(10) if k % 3 != 0]), True)

    def test_at_most_504_turns(self):
        # Ten readings, no two of which agree: 45 least lots, and ten repairs that leave one reading each.
        readings = [(f"r{k}", "a", 0, (3 * k, 1)) for k in range(10)]
        lots, repairs = lots_and_repairs(GROW, readings)
        self.assertEqual((len(lots), len(repairs)), (45, 10))
        self.assertTrue(is_conflict_paper(GROW, readings, conflict_paper(GROW, readings)))


class Judge(unittest.TestCase):
    def test_changed(self):
        for world, readings in [(GROW, THREE), (PLANE, ROUND), (AGAINST, THREE[:1]), (GROW, THREE[:1])]:
            check_refusals(self, lambda value: is_conflict_paper(world, readings, value), conflict_paper(world, readings),
                           lambda value: is_right_paper(world, readings, value),
                           [([], []), ([([], [])], []), ([], [([], [])]), (None, None), ([None], []), ([], [(None, None)]),
                            ([(["r1"], None)], [(["r1"], None)]), ([(["r9"], [])], []), ([], []) + ([],)])

    def test_left_out_put_in_and_exchanged(self):
        lots, repairs = conflict_paper(GROW, THREE)
        self.assertEqual((len(lots), len(repairs)), (2, 2))
        whole = lot_by_papers(GROW, THREE, ["r1", "r2", "r3"])
        clash_of_three = [(0, 1)] * 9
        values = [(lots[:1], repairs), (lots[1:], repairs), (lots, repairs[:1]), (lots, repairs[1:]), (lots[::-1], repairs),
                  (lots, repairs[::-1]), (lots + lots[:1], repairs), (lots[:1] + lots, repairs), (lots, repairs[:1] + repairs),
                  (repairs, lots), ([], repairs), (lots, []), (lots, repairs + [(["r1", "r2"], repairs[0][1])]),
                  (lots[:1] + [(["r1", "r2", "r3"], clash_of_three)] + lots[1:], repairs),
                  ([(lots[0][0], lots[1][1]), (lots[1][0], lots[0][1])], repairs),
                  (lots, [(repairs[0][0], repairs[1][1]), (repairs[1][0], repairs[0][1])])]
        for value in values:
            self.assertIs(is_conflict_paper(GROW, THREE, value), False, value)
        self.assertIn(whole, [lot for lot, _ in lots])
        for value in STRANGE:
            self.assertIs(is_conflict_paper(GROW, THREE, (value, repairs)), False)
            self.assertIs(is_conflict_paper(GROW, THREE, (lots, value)), False)
            self.assertIs(is_conflict_paper(GROW, THREE, (lots, [repairs[0], (["r2"], value)])), False)
            self.assertIs(is_conflict_paper(GROW, THREE, (lots, [repairs[0], (value, repairs[1][1])])), False)
            self.assertIs(is_conflict_paper(GROW, THREE, (lots + [value], repairs)), False)

    def test_repairs_with_room(self):
        """Any course that the others allow will do; so will any clash of a lot's rows."""
        lots, repairs = conflict_paper(GROW, THREE)
        moved = [(lot, course) for lot, course in repairs]
        moved[1] = (["r2"], [[(13, 4)], [(9, 2)]])
        self.assertIs(is_conflict_paper(GROW, THREE, (lots, moved)), True)
        moved[1] = (["r2"], [[(5, 1)], [(9, 2)]])
        self.assertIs(is_conflict_paper(GROW, THREE, (lots, moved)), False)
        more = [(lot, [(3 * above, below) if (3 * above) % below or below == 1 else (above, below) for above, below in weights])
                for lot, weights in lots]
        self.assertIs(is_conflict_paper(GROW, THREE, (more, repairs)), is_right_paper(GROW, THREE, (more, repairs)))

    def test_very_long(self):
        long = [(["r1"], [])] * 6000
        self.assertIs(is_conflict_paper(GROW, THREE, (long, [])), False)
        self.assertIs(is_conflict_paper(GROW, THREE, ([], long)), False)
        self.assertIs(is_conflict_paper(GROW, THREE, ([(["r1"] * 6000, [])], [])), False)


if __name__ == "__main__":
    unittest.main()
