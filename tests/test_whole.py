"""The whole program, from texts to the house: texts read, readings taken, sets told, questions answered; and from nothing."""

import unittest

from allreadings.answering import answer_to, gist, sheaf
from allreadings.arrivals import merged, settled_arrivals, standing_readings
from allreadings.courses import set_at
from allreadings.deskhouse import House
from allreadings.desks import Desk, exchange, know_same
from allreadings.everywhere import sets_everywhere, sets_onwards, sets_returning
from allreadings.judging import first_unfit, is_answer
from allreadings.keeping import keeper_of, told_from_nothing
from allreadings.plainly import plain_gist
from allreadings.reader import arrivals, read_sheet, tell_one
from allreadings.setpapers import is_set_paper
from allreadings.watches import watched
from allreadings.worlds import is_readings, is_world
from allreadings.writer import tidy_text, write_sheet
from tests.made import WORDS, MadeWorlds, made_asked

TEXT = """# A cart on rails: where it is, and how fast it goes.
unknowns x v
moments 3
start 0 <= x        # it starts behind the gate
start v <= 2
start v >= 0
steps x' = x + v
steps v' - v <= 1
steps v - v' <= 1
sensor gate: 2 x slack 1/2
sensor wheel: v slack 1
reading r1 gate at 2 = 7
reading r2 wheel at 0 = 9   # the wheel slipped
back r2
reading r3 wheel at 1 = 3/2
ask x at 2 <= 9/1
"""


def untidied(made, text):
    """A text that tells the same: remarks, empty lines, more spaces, noughts in front, neighbours exchanged."""
    lines = text.split("\n")
    for _ in range(10):
        k = made.number(0, len(lines) - 2)
        one, other = lines[k].split(" ")[0], lines[k + 1].split(" ")[0]
        together = {"reading", "back"}, {"step", "steps"}
        if one != other and not any(one in kinds and other in kinds for kinds in together):
            lines[k], lines[k + 1] = lines[k + 1], lines[k]
    found = []
    for line in lines:
        if made.number(0, 3) == 0:
            found.append(made.one_of(["", "   ", "# x <= ?", "  # back r"]))
        words = [made.one_of(["0", "00", ""]) + word if word.isdigit() and len(word) < 90 else word for word in line.split(" ")]
        found.append(" " * made.number(0, 2) + made.one_of([" ", "  "]).join(words) + made.one_of(["", " ", " # end", "#"]))
    return "\n".join(found)


class Cart(unittest.TestCase):
    def test_read_and_told(self):
        text = TEXT.replace("9/1", "9")
        house = House()
        self.assertEqual(house.do(("read", "cart", text)), ["x", "v"])
        world = house.world_at("cart")
        self.assertTrue(is_world(world))
        self.assertEqual(world[4], [("gate", (2, 0), (1, 2)), ("wheel", (0, 1), (1, 1))])
        readings = house.readings_at("cart")
        self.assertEqual(readings, [("r1", "gate", 2, (7, 1)), ("r3", "wheel", 1, (3, 2))])
        shapes = [house.do(("told", "cart", moment)) for moment in range(3)]
        self.assertEqual(shapes, [set_at(world, readings, moment) for moment in range(3)])
        self.assertEqual(shapes[2][3][0][0], (13, 4))
        self.assertEqual(house.do(("note", "far", "cart", ("reach", [(2, (1, 0))], []))), ("reach", (13, 4), (15, 4)))
        linear = read_sheet(text)[3][0]
        self.assertEqual(house.do(("note", "ask", "cart", ("saying", ("all", [linear]), []))), "surely")
        self.assertEqual(house.do(("take", "cart", ("hear", ("r2", "wheel", 0, (9, 1))))), "known")
        self.assertEqual([house.status("far"), house.status("ask")], ["fresh", "fresh"])
        self.assertEqual(house.do(("take", "cart", ("hear", ("r4", "wheel", 0, (9, 1))))), "new")
        self.assertEqual([house.status("far"), house.do(("told", "cart", 1)), house.do(("ask", "cart", ("course",)))[0]],
                         ["stale", ("empty", 2), "no"])
        self.assertEqual(house.do(("note", "odd", "cart", ("conflicts",))), ([["r4"]], [["r4"]]))
        self.assertEqual(house.do(("note", "wheel", "cart", ("sensor", 1, "wheel"))), "wrong")
        self.assertEqual(house.do(("take", "cart", ("back", "r4"))), "gone")
        self.assertEqual([house.status(label) for label in house.labels], ["fresh", "fresh", "stale", "stale"])

    def test_watched(self):
        _, world, readings, _ = read_sheet(TEXT.replace("9/1", "9"))
        words = watched(world, readings, ((0, 0, 0, 0, 1, 0), 4))
        self.assertEqual(words, ["open", "surely", "surely"])


class Made(unittest.TestCase):
    def made_texts(self, seed, count):
        """Sheets with few moments and numbers that are not too long, each with its text, written."""
        for k in range(count):
            made = MadeWorlds(seed + k)
            sheet = made.sheet()
            if sheet[1][0] * sheet[1][1] <= 6 and all(abs(number) < 10 ** 6 for row in sheet[1][2] for number in row[0]):
                yield made, sheet, write_sheet(sheet)

    def test_texts_to_houses(self):
        count = 0
        for made, sheet, text in self.made_texts(500, 60):
            names, world, readings, linears = sheet
            self.assertEqual(read_sheet(text), sheet)
            other = untidied(made, text)
            self.assertTrue(tell_one(text, other))
            self.assertTrue(tell_one(text, tidy_text(other)))
            house = House()
            self.assertEqual(house.do(("read", "w", text)), names)
            self.assertEqual(house.do(("read", "o", other)), names)
            self.assertTrue(is_world(world) and is_readings(world, readings))
            self.assertEqual(house.readings_at("w"), sorted(readings))
            self.assertEqual(house.readings_at("o"), sorted(readings))
            for moment in range(world[1]):
                shape = house.do(("told", "w", moment))
                self.assertEqual(shape, set_at(world, readings, moment))
                self.assertEqual(house.do(("told", "o", moment)), shape)
                self.assertEqual(told_from_nothing(world, arrivals(text), moment), shape)
            questions = [("saying", ("all", [linear]), []) for linear in linears] + [("reach", linear[0], []) for linear in linears]
            questions += [made_asked(made, world, word) for word in WORDS]
            for k, question in enumerate(question for question in questions if question is not None):
                told = house.do(("note", f"n{k}", "w", question))
                self.assertEqual(told, plain_gist(world, readings, question))
                answer = house.do(("ask", "o", question))
                self.assertTrue(is_answer(house.world_at("o"), house.readings_at("o"), question, answer))
                self.assertEqual(gist(question, answer), told)
                count += 1
            self.assertEqual({house.status(label) for label in house.labels}, {"fresh"})
            again = House.again(house.log)
            self.assertEqual([again.note(label) for label in again.labels], [house.note(label) for label in house.labels])
        self.assertGreater(count, 300)

    def test_readings_in_any_sequence(self):
        """Late, doubled, taken back, heard at several desks: what is told depends only on which readings stand."""
        for made, sheet, text in self.made_texts(700, 30):
            world = sheet[1]
            if not world[4]:
                continue
            told = made.arrivals(world, 4)
            keeper = keeper_of(world, told)
            mixed = keeper_of(world, made.mixed_up(told + told[:3]))
            house = House()
            house.do(("new", "w", world))
            house.do_all([("take", "w", arrival) for arrival in made.mixed_up(told)])
            one, other = Desk("one", world, ["other"]), Desk("other", world, ["one"])
            for k, (word, value) in enumerate(made.mixed_up(told)):
                desk = one if k % 2 else other
                desk.hear(value) if word == "hear" else desk.take_back(value)
            exchange(one, other)
            self.assertTrue(know_same(one, other))
            self.assertEqual(settled_arrivals(one.roll), settled_arrivals(told))
            standing = standing_readings(told)
            shapes = sets_everywhere(world, standing)
            self.assertEqual(sets_returning(world, standing), shapes)
            self.assertEqual(sets_onwards(world, standing), shapes)
            for moment in range(world[1]):
                for shape in [keeper.told_at(moment), mixed.told_at(moment), house.do(("told", "w", moment)), one.told_at(moment),
                              other.told_at(moment), told_from_nothing(world, merged(told, told[:2]), moment)]:
                    self.assertEqual(shape, shapes[moment])
                for paper in [keeper.paper_at(moment), one.paper_at(moment)]:
                    self.assertTrue(is_set_paper(world, standing, moment, shapes[moment], paper))
            questions = [question for question in (made_asked(made, world, word) for word in WORDS) if question is not None]
            answers = sheaf(world, house.readings_at("w"), questions)
            self.assertIsNone(first_unfit(world, one.readings, questions, answers))

    def test_house_from_nothing(self):
        """A house, its notes renewed behind each arrival, tells what is told from nothing."""
        for made, sheet, text in self.made_texts(800, 12):
            world = sheet[1]
            if not world[4]:
                continue
            questions = [question for question in (made_asked(made, world, word) for word in WORDS[:9]) if question is not None]
            house = House()
            house.do(("read", "w", text))
            for k, question in enumerate(questions):
                house.do(("note", f"n{k}", "w", question))
            for reading in made.readings(world, 3):
                reading = ("q" + reading[0],) + reading[1:]
                house.do(("take", "w", ("hear", reading)))
                for k, question in enumerate(questions):
                    now = plain_gist(world, house.readings_at("w"), question)
                    self.assertEqual(house.status(f"n{k}"), "carried" if now == house.gist_of(f"n{k}") else "stale")
                    self.assertEqual(house.attempt([("renew", f"n{k}")]), [now])
                    self.assertEqual(gist(question, answer_to(world, house.readings_at("w"), question)), now)
            house.do_all([("renew", f"n{k}") for k in range(len(questions))])
            self.assertTrue(all(house.status(label) == "fresh" for label in house.labels))


if __name__ == "__main__":
    unittest.main()
