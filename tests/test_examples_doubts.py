"""The examples of the interface from answers on to houses, with the answers that stand there."""

import unittest

from allreadings.answering import answer_to, gist, is_question, sheaf
from allreadings.answers import by_when, is_verdict, spells, verdict, word_of
from allreadings.choosing import all_choices, blamed_sensors, choice_paper, fits, fitting_by_least, is_choice_paper, least_choices
from allreadings.choosing import least_wrong
from allreadings.conflicts import least_lots_plain, left_lot, lot_holds, lot_of, other_lot
from allreadings.deskhouse import House
from allreadings.desks import Desk, exchange, know_same
from allreadings.doubted import said_in_doubt, sensor_standing, spread
from allreadings.doubtpapers import is_saying_paper, is_spread_paper, saying_paper, spread_paper
from allreadings.hitting import hits, least_hitting, thinned_family
from allreadings.judging import first_unfit, is_answer
from allreadings.plainly import plain_gist
from allreadings.plans import best_pick, plan_list, width_behind
from allreadings.repairs import fewest_repairs, is_repair, lots_and_repairs
from allreadings.thinning import quiet_labels, thinned, thinned_to
from allreadings.watches import watched
from allreadings.widening import is_extra_paper, least_extra, raised_world, widened

CART = (1, 2, [((-1,), 0)], [[((-1, 1), 2), ((1, -1), 0)]], [("a", (1,), (1, 1))])
HEARD = [("r", "a", 1, (5, 1))]
GROW = (1, 2, [((-1,), 0)], [[((1, -1), 0), ((-1, 1), 2)]], [("a", (1,), (1, 1))])
THREE = [("r1", "a", 1, (5, 1)), ("r2", "a", 0, (0, 1)), ("r3", "a", 0, (3, 1))]
STILL = (1, 2, [], [[((1, -1), 0), ((-1, 1), 0)]], [("a", (1,), (1, 1)), ("b", (1,), (1, 1)), ("c", (1,), (0, 1))])
TOLD = [("r1", "a", 0, (0, 1)), ("r2", "b", 1, (4, 1)), ("r3", "c", 1, (1, 1))]
READS = [("r1", "a", 1, (5, 1))]


class Examples(unittest.TestCase):
    def test_answers(self):
        either = ("any", [([(0, (1,))], 3), ([(0, (-1,))], -3)])
        self.assertEqual(
            [word_of(CART, HEARD, ("all", either[1])), word_of(CART, HEARD, either), is_verdict(CART, HEARD, either, verdict(CART, HEARD, either)),
             spells(CART, HEARD, (-1,), -4), by_when(CART, HEARD, (-1,), -4)],
            ["perhaps", "surely", True, ["perhaps", "surely"], 1])

    def test_conflicts(self):
        self.assertEqual(
            [lot_of(THREE, ["r3", "r1"]), other_lot(THREE, ["r2"]), lot_holds(GROW, THREE, ["r1", "r3"]), least_lots_plain(GROW, THREE),
             left_lot(GROW, THREE, ["r1", "r2", "r3"]), left_lot(GROW, THREE, ["r1"])],
            [["r1", "r3"], ["r1", "r3"], True, [["r1", "r2"], ["r2", "r3"]], ["r1", "r2"], None])
        family = [["b", "c"], ["a", "b"], ["a", "b", "d"]]
        self.assertEqual([thinned_family(family), least_hitting(family), hits(["a"], family), least_hitting([]), least_hitting([[]])],
                         [[["a", "b"], ["b", "c"]], [["a", "c"], ["b"]], False, [[]], []])
        self.assertEqual([lots_and_repairs(GROW, THREE), fewest_repairs(GROW, THREE), is_repair(GROW, THREE, ["r1", "r2"])],
                         [([["r1", "r2"], ["r2", "r3"]], [["r1", "r3"], ["r2"]]), [["r2"]], True])

    def test_widening(self):
        told = least_extra(GROW, THREE)
        self.assertEqual([widened(GROW, THREE[:1])[1][3:], told[:2], least_extra(GROW, [])[1], raised_world(GROW, (1, 2))[4]],
                         [[((0, 1, -1), 6), ((0, -1, -1), -4), ((0, 0, -1), 0)], ("extra", (1, 2)), (0, 1), [("a", (1,), (3, 2))]])
        self.assertTrue(is_extra_paper(GROW, THREE, told))
        self.assertTrue(is_extra_paper(GROW, THREE, ("extra", (1, 2), [[(3, 2)], [(7, 2)]], told[3])))

    def test_choosing(self):
        paper = choice_paper(STILL, TOLD, 1, [], [], [])
        self.assertEqual(
            [all_choices(STILL, 1), fits(STILL, TOLD, ["b"]), least_choices(STILL, TOLD), fitting_by_least(STILL, TOLD, 2), least_wrong(STILL, TOLD),
             blamed_sensors(STILL, TOLD, [(1, 1)] * 3 + [(0, 1)] * 5), paper[:2]],
            [[[], ["a"], ["b"], ["c"]], True, [["b"], ["a", "c"]], [["b"], ["a", "b"], ["a", "c"], ["b", "c"]], 1, ["a"], ("choice", ["b"])])
        self.assertTrue(is_choice_paper(STILL, TOLD, 1, [], [], [], ("choice", ["b"], [[(1, 1)], [(1, 1)]])))
        self.assertEqual(paper[2], [[(1, 1)], [(1, 1)]])

    def test_doubted(self):
        self.assertEqual(
            [sensor_standing(STILL, TOLD, 1, "b"), sensor_standing(STILL, TOLD, 1, "c"), sensor_standing(STILL, TOLD, 2, "b"),
             sensor_standing(STILL, TOLD, 0, "b"), said_in_doubt(STILL, TOLD, 1, ((0, 1), 0)), said_in_doubt(STILL, TOLD, 2, ((0, 1), 1))],
            ["wrong", "right", "open", "none", "never", "perhaps"])
        self.assertEqual([shape[2] for shape in spread(STILL, TOLD, 2, 0)], [[((-1,), -3), ((1,), 5)], [((-1,), 1), ((1,), 1)]])
        paper = spread_paper(STILL, TOLD, 2, 0)
        saying = saying_paper(STILL, TOLD, 2, ((0, 1), 1))
        self.assertEqual([is_spread_paper(STILL, TOLD, 2, 0, spread(STILL, TOLD, 2, 0), paper), is_spread_paper(STILL, TOLD, 2, 0, [], paper), saying[0]],
                         [True, False, "perhaps"])
        self.assertTrue(is_saying_paper(STILL, TOLD, 2, ((0, 1), 1), saying))

    def test_watches_plans_thinning(self):
        self.assertEqual(watched(GROW, [("r1", "a", 1, (5, 1)), ("r2", "a", 0, (-3, 1))], ((1, 0), 6)), ["open", "surely", "clash"])
        self.assertEqual([plan_list(GROW, READS, (1, 0)), best_pick(GROW, READS, (1, 0), 1), width_behind(GROW, READS, [("a", 0)], [(6, 1)], (1, 0))],
                         [[("a", 0, (2, 1)), ("a", 1, (4, 1))], ([("a", 0)], (2, 1)), (1, 1)])
        more = READS + [("r2", "a", 1, (5, 1)), ("r3", "a", 0, (9, 2))]
        self.assertEqual([quiet_labels(GROW, more), thinned(GROW, more), thinned_to(GROW, more, (1, 0), (2, 1))],
                         [["r1", "r2"], ["r1", "r3"], ["r1"]])

    def test_answering(self):
        self.assertEqual(
            [is_question(GROW, ("set", 2)), is_question(GROW, ("sensor", 1, "a")), gist(("set", 0), answer_to(GROW, READS, ("set", 0)))[3],
             gist(("course",), ("yes", [[(2, 1)], [(4, 1)]])), gist(("extra",), answer_to(GROW, READS, ("extra",)))],
            [False, True, [[(2, 1)], [(6, 1)]], "yes", ("extra", (0, 1))])
        reach = ("reach", [(0, (-2,))], [])
        self.assertEqual([answer_to(GROW, READS, ("stand", 0, [(1, 1)]))[0], gist(reach, answer_to(GROW, READS, reach)),
                          len(sheaf(GROW, READS, [("course",), ("conflicts",)]))],
                         ["bar", ("reach", (-12, 1), (-4, 1)), 2])
        self.assertEqual([is_answer(GROW, READS, ("course",), ("yes", [[(2, 1)], [(4, 1)]])), is_answer(GROW, READS, ("course",), ("no", [(0, 1)] * 5)),
                          first_unfit(GROW, READS, [("extra",), ("set", 1)], sheaf(GROW, READS, [("extra",), ("extra",)]))],
                         [True, False, 1])
        self.assertEqual([plain_gist(GROW, READS, ("reach", [(0, (1,))], [])), plain_gist(GROW, READS, ("peak", (1,), [])),
                          plain_gist(GROW, READS, ("stand", 1, [(5, 1)])), plain_gist(GROW, READS, ("by", (-1,), -4, []))],
                         [("reach", (2, 1), (6, 1)), ("peak", (4, 1)), "yes", ("by", 1)])

    def test_desks(self):
        one, other = Desk("one", CART, ["other"]), Desk("other", CART, ["one"])
        self.assertEqual(
            [one.hear(("r", "a", 1, (5, 1))), other.take_back("s"), one.letter("other", most=0), other.take_letter(one.letter("other")),
             other.had_from("one"), exchange(one, other), know_same(one, other), one.told_at(0)],
            ["new", "ahead", ("one", "other", 0, [], 0), [("hear", ("r", "a", 1, (5, 1)))], 1, 6, True,
             ("shape", 1, [((-1,), -2), ((1,), 6)], [[(2, 1)], [(6, 1)]], [])])

    def test_house(self):
        house = House()
        self.assertEqual(
            [house.do(("new", "c", CART)), house.do(("take", "c", ("back", "s"))), house.do(("told", "c", 1)), house.do(("undo",)),
             house.arrivals_at("c"), house.log == [("new", "c", CART)]],
            [(1, 2, [((-1,), 0)], [[((-1, 1), 2), ((1, -1), 0)]], [("a", (1,), (1, 1))]), "ahead", ("shape", 1, [((-1,), 0)], [[(0, 1)]], [(1,)]),
             ("take", "c", ("back", "s")), [], True])


if __name__ == "__main__":
    unittest.main()
