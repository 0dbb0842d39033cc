"""The examples of the interface from the stage of texts on, with the answers that stand there."""

import unittest

from allreadings.allrows import all_rows, at_moment, course_point, point_course, reading_rows, row_labels
from allreadings.arrivals import lacking, lateness, settled_arrivals, standing_readings, state_in
from allreadings.backwards import behind_one, behind_set, behind_sums, is_late_course, late_course
from allreadings.beginnings import first_fault, is_beginning, is_statement
from allreadings.clashes import follows
from allreadings.courses import blamed_labels, course_of, fault_of, is_allowed, is_named_clash, set_at
from allreadings.everywhere import is_through, set_everywhere, sets_everywhere, sets_onwards, sets_returning, through
from allreadings.forwards import ahead_set, before_sets, carried_paper, course_to, seen_set
from allreadings.keeping import Keeper
from allreadings.linears import form_worth, is_known, keeps_saying, known_rows, linear_row
from allreadings.outlines import is_outline_paper, outline, outline_paper
from allreadings.parsing import statements
from allreadings.questions import ends, highest, is_least_peak, least_peak, plain_ends
from allreadings.reader import arrivals, is_sheet_text, read_sheet, tell_one
from allreadings.setpapers import is_everywhere, is_move, is_set_paper, level_readings, level_world, move_through
from allreadings.setpapers import papers_everywhere, plain_set_paper, set_paper
from allreadings.stepping import led_stand, stepped, stepped_back, turned_rows
from allreadings.worlds import is_reading, is_world, readings_cut, readings_moved, sensor_of, world_from, world_moved
from allreadings.writer import form_text, statement_texts

GROW = (1, 2, [((-1,), 0)], [[((1, -1), 0), ((-1, 1), 2)]], [("a", (1,), (1, 1))])
READS = [("r1", "a", 1, (5, 1))]
CART = (1, 2, [((-1,), 0)], [[((-1, 1), 2), ((1, -1), 0)]], [("a", (1,), (1, 1))])
HEARD = [("r", "a", 1, (5, 1))]
RISE = [(0, (-1,)), (1, (1,))]
COURSE = [[(5, 2)], [(4, 1)]]


class Texts(unittest.TestCase):
    def test_parsing(self):
        self.assertEqual(
            statements("step 0: x' <= 2 x + 1"),
            [("step", 1, 0, [(1, "x", 1)], "<=", [(2, "x", 0), (1, "", 0)])])

    def test_beginnings(self):
        self.assertEqual(
            [is_beginning(["start", "-"]), is_statement(["start", "-"]), is_beginning(["start", "+"]),
             is_statement(["back", "r"])],
            [True, False, False, True])
        self.assertEqual(
            [first_fault("back r\nmoments # 1"), first_fault("start 2 slack"), first_fault("")],
            [(2, 11), (1, 8), None])

    def test_reader(self):
        text = ("unknowns x\nmoments 2\nstart 0 <= x\nsteps x' <= x + 2\nsensor a: x slack 1\n"
                "reading r a at 1 = 5")
        self.assertEqual(
            read_sheet(text),
            (["x"], (1, 2, [((-1,), 0)], [[((-1, 1), 2)]], [("a", (1,), (1, 1))]), [("r", "a", 1, (5, 1))], []))
        self.assertEqual(
            [is_sheet_text(text + "\nback r\nback r"), arrivals(text), tell_one(text, text + "\nask x at 0 <= 9")],
            [False, [("hear", ("r", "a", 1, (5, 1)))], False])

    def test_writer(self):
        sheet = (["x"], (1, 2, [], [[((-1, 1), 2)]], [("a", (1,), (1, 2))]), [("r", "a", 1, (-5, 2))],
                 [([(0, (2,)), (1, (-1,))], -3)])
        self.assertEqual(
            [form_text(["x", "y"], (-1, 3)), statement_texts(sheet)[2:]],
            ["-x + 3 y", ["step 0: -x + x' <= 2", "sensor a: x slack 1/2", "reading r a at 1 = -5/2",
                          "ask 2 x at 0 - x at 1 <= -3"]])


class Worlds(unittest.TestCase):
    def test_worlds(self):
        self.assertEqual(
            [is_world(GROW), is_reading(GROW, ("r1", "a", 1, (5, 1))), sensor_of(GROW, "a"),
             readings_cut([("r1", "a", 1, (5, 1))], 1), readings_moved(GROW, READS, [(0,), (3,)])],
            [True, True, ("a", (1,), (1, 1)), [], [("r1", "a", 1, (8, 1))]])
        self.assertEqual(
            world_moved(GROW, [(1,), (3,)]),
            (1, 2, [((-1,), -1)], [[((1, -1), -2), ((-1, 1), 4)]], [("a", (1,), (1, 1))]))
        self.assertEqual(world_from(GROW, 1), (1, 1, [], [], [("a", (1,), (1, 1))]))

    def test_rows(self):
        self.assertEqual(
            [reading_rows(GROW, ("r3", "a", 0, (1, 2))), all_rows(GROW, READS), at_moment(GROW, 1, (3,)),
             course_point([[(1, 2)], [(0, 1)]]), point_course(GROW, [(1, 2), (0, 1)])],
            [[((2,), 3), ((-2,), 1)],
             (2, [((-1, 0), 0), ((1, -1), 0), ((-1, 1), 2), ((0, 1), 6), ((0, -1), -4)]), (0, 3), [(1, 2), (0, 1)],
             [[(1, 2)], [(0, 1)]]])
        self.assertEqual(
            row_labels(GROW, READS),
            [("start", 0), ("step", 0, 0), ("step", 0, 1), ("upper", "r1"), ("lower", "r1")])

    def test_courses(self):
        more = READS + [("r2", "a", 0, (-3, 1))]
        clash = [(("start", 0), (1, 1)), (("upper", "r2"), (1, 1))]
        self.assertEqual(
            [is_allowed(GROW, READS, [[(2, 1)], [(4, 1)]]), fault_of(GROW, READS, [[(1, 1)], [(4, 1)]]),
             fault_of(GROW, READS, [[(2, 1)], [(4, 1)]]), set_at(GROW, READS, 0)],
            [True, ("step", 0, 1), None, ("shape", 1, [((-1,), -2), ((1,), 6)], [[(2, 1)], [(6, 1)]], [])])
        self.assertEqual(
            [course_of(GROW, more), is_named_clash(GROW, more, clash), blamed_labels(clash)], [None, True, ["r2"]])


class Sets(unittest.TestCase):
    def test_outlines(self):
        band = (2, [((-1, 0), 0), ((1, 0), 2), ((-1, 1), 1), ((1, -1), 0)])
        shape = ("shape", 1, [((-1,), 0), ((1,), 3)], [[(0, 1)], [(3, 1)]], [])
        paper = ("set", [[(1, 1), (0, 1), (0, 1), (1, 1)], [(0, 1), (1, 1), (1, 1), (0, 1)]],
                 [[(0, 1), (0, 1)], [(2, 1), (3, 1)]], [])
        self.assertEqual(outline(band, [1]), shape)
        self.assertTrue(is_outline_paper(outline_paper(band, [1]), band, [1], shape))
        self.assertTrue(is_outline_paper(paper, band, [1], shape))

    def test_stepping(self):
        stretch = ("shape", 1, [((-1,), 0), ((1,), 2)], [[(0, 1)], [(2, 1)]], [])
        rows = [((-1, 1), 1), ((1, -1), 0)]
        self.assertEqual(
            [stepped(stretch, rows)[3], stepped_back(stretch, rows)[2], turned_rows(rows),
             led_stand(stretch, rows, [(3, 1)]), led_stand(stretch, rows, [(4, 1)])],
            [[[(0, 1)], [(3, 1)]], [((-1,), 1), ((1,), 2)], [((1, -1), 1), ((-1, 1), 0)], [(2, 1)], None])

    def test_forwards(self):
        world = (1, 2, [((-1,), 0)], [[((-1, 1), 2), ((1, -1), 0)]], [("a", (1,), (1, 1))])
        self.assertEqual(
            [before_sets(world, READS)[1][2], ahead_set(world, READS, 0, 1)[2:], seen_set(world, READS, 1)[3],
             course_to(world, READS, 1, [(7, 1)])],
            [[((-1,), -4), ((1,), 6)], ([((-1,), 0)], [[(0, 1)]], [(1,)]), [[(4, 1)], [(6, 1)]], None])
        lower = [(0, 1), (0, 1), (0, 1), (0, 1), (1, 1)]
        self.assertTrue(follows(all_rows(world, READS), ((0, -1), -4), lower))
        self.assertTrue(follows(all_rows(world, READS), ((0, -1), -4), carried_paper(world, READS, 1)[1][0]))

    def test_backwards(self):
        self.assertEqual(
            [behind_set(GROW, READS, 0), behind_one(GROW, READS, 0, ("empty", 1)),
             late_course(GROW, READS, 0, [(7, 1)])],
            [("shape", 1, [((-1,), -2), ((1,), 6)], [[(2, 1)], [(6, 1)]], []), ("empty", 1), None])
        for course in ([[(2, 1)], [(4, 1)]], late_course(GROW, READS, 0, [(2, 1)])):
            self.assertTrue(is_late_course(GROW, READS, 0, [(2, 1)], course))
        sums = [[(0, 1), (0, 1), (0, 1), (0, 1), (1, 1)], [(0, 1), (0, 1), (0, 1), (1, 1), (0, 1)]]
        self.assertEqual(behind_sums(GROW, READS, 1), sums)

    def test_everywhere(self):
        bar = ("bar", ((-2,), -4), [(0, 1), (0, 1), (2, 1), (0, 1), (2, 1)])
        self.assertEqual(
            [sets_everywhere(GROW, READS) == sets_returning(GROW, READS), set_everywhere(GROW, READS, 1)[2:4],
             through(GROW, READS, 0, [(2, 1)]), through(GROW, READS, 0, [(1, 1)])[0],
             is_through(GROW, READS, 0, [(1, 1)], bar)],
            [True, ([((-1,), -4), ((1,), 6)], [[(4, 1)], [(6, 1)]]), ("course", [[(2, 1)], [(4, 1)]]), "bar", True])
        self.assertEqual(sets_onwards(GROW, READS), sets_returning(GROW, READS))

    def test_setpapers(self):
        self.assertEqual(
            [level_world(GROW), level_readings(READS), move_through(GROW, READS, 0, (1,)),
             is_move(GROW, [], [(3,), (3,)]), is_move(GROW, [], [(1,), (2,)])],
            [(1, 2, [((-1,), 0)], [[((1, -1), 0), ((-1, 1), 0)]], [("a", (1,), (0, 1))]), [("r1", "a", 1, (0, 1))],
             None, True, False])
        self.assertEqual(
            [is_set_paper(GROW, READS, 0, set_everywhere(GROW, READS, 0), set_paper(GROW, READS, 0)),
             is_set_paper(GROW, READS, 0, ("empty", 1), set_paper(GROW, READS, 0)),
             is_everywhere(GROW, READS, sets_everywhere(GROW, READS), papers_everywhere(GROW, READS))],
            [True, False, True])
        shape = set_everywhere(GROW, READS, 0)
        self.assertTrue(is_set_paper(GROW, READS, 0, shape, plain_set_paper(GROW, READS, 0)))


class Keeping(unittest.TestCase):
    def test_arrivals(self):
        r, s = ("r", "a", 1, (5, 1)), ("s", "a", 0, (1, 2))
        settled = settled_arrivals([("back", "s"), ("hear", s), ("hear", r), ("hear", r)])
        self.assertEqual(
            [settled == [("hear", r), ("hear", s), ("back", "s")],
             standing_readings([("back", "r"), ("hear", s), ("hear", r)]),
             lateness([("hear", r), ("back", "r"), ("hear", s)]),
             lacking([("hear", s), ("back", "s")], [("hear", s)]), state_in([("back", "s")], "s")],
            [True, [("s", "a", 0, (1, 2))], [0, 0, 1], [("back", "s")], "ahead"])

    def test_keeper(self):
        one = Keeper((1, 2, [((-1,), 0)], [[((-1, 1), 2), ((1, -1), 0)]], [("a", (1,), (1, 1))]))
        self.assertEqual(
            [one.take_back("s"), one.hear(("r", "a", 1, (5, 1))), one.hear(("r", "a", 1, (5, 1))),
             one.hear(("s", "a", 0, (9, 1))), one.told_at(0), one.made(), one.late(), one.undo(), one.state_of("s"),
             one.firm(1)],
            ["ahead", "new", "known", "gone",
             ("shape", 1, [((-1,), -2), ((1,), 6)], [[(2, 1)], [(6, 1)]], []), (1, 2), [0, 0, 0, 1],
             ("hear", ("s", "a", 0, (9, 1))), "ahead", 0])


class Questions(unittest.TestCase):
    def test_linears(self):
        self.assertEqual(
            [linear_row(CART, (RISE, 1)), form_worth(RISE, COURSE), is_known(CART, HEARD, COURSE),
             is_known(CART, HEARD, COURSE, supposed=[(RISE, 1)]),
             keeps_saying(("any", [(RISE, 1), ([(0, (2,))], 5)]), COURSE), keeps_saying(("any", []), COURSE)],
            [((-1, 1), 1), (3, 2), True, False, True, False])
        self.assertEqual(known_rows(CART, HEARD, supposed=((RISE, 1),))[1][-1], ((-1, 1), 1))

    def test_questions(self):
        self.assertEqual(
            [ends(CART, HEARD, RISE), ends(CART, HEARD, [(0, (1,))], supposed=((RISE, 1),)),
             plain_ends(CART, [], [(1, (3,))]), highest(CART, HEARD, (1,))],
            [((0, 1), (2, 1)), ((3, 1), (6, 1)), ((0, 1), None), ((6, 1), 0)])
        paper = ("peak", (-6, 1), [[(6, 1)], [(6, 1)]], [(1, 1), (0, 1)], [(0, 1), (0, 1), (1, 1), (1, 1), (0, 1)])
        self.assertEqual(
            [least_peak(CART, HEARD, (1,))[:2], is_least_peak(CART, HEARD, (-1,), paper)], [("peak", (4, 1)), True])


if __name__ == "__main__":
    unittest.main()
