"""Houses: each command and its errors, undone and redone, lists of commands, notes and their statuses."""

import copy
import unittest

from allreadings.answering import answer_to, gist
from allreadings.arrivals import lacking, standing_readings
from allreadings.commands import is_command, is_deed
from allreadings.deskhouse import House
from allreadings.errors import BadText, CommandFailed, InvalidArrival, InvalidCommand, LackingStatement, MissingMoment, NothingToRedo
from allreadings.errors import NothingToUndo, TakenLabel, TakenName, TakenNote, TakenWorld, TooMany, UnfitAnswer, UnfitQuestion
from allreadings.errors import UnknownNote, UnknownWorld, UnlikeWorlds
from allreadings.everywhere import set_everywhere
from allreadings.judging import is_answer
from tests.made import STRANGE, WORDS, MadeWorlds, folded, made_asked

CART = (1, 2, [((-1,), 0)], [[((-1, 1), 2), ((1, -1), 0)]], [("a", (1,), (1, 1))])
OTHER = (1, 1, [], [], [("a", (1,), (1, 1))])
R, S = ("r", "a", 1, (5, 1)), ("s", "a", 0, (4, 1))
R2 = ("r", "a", 1, (6, 1))
TEXT = "unknowns x\nmoments 2\nstart 0 <= x\nsteps x' <= x + 2\nsensor a: x slack 1\nreading r a at 1 = 5\nreading q a at 0 = 1\nback q"


def show(house):
    """All that a house shows, copied, so that it does not change with the house."""
    return copy.deepcopy(([(name, house.world_at(name), house.arrivals_at(name), house.readings_at(name)) for name in house.names],
            [(label, house.note(label), house.status(label), house.gist_of(label)) for label in house.labels], house.log))


def housed(*commands):
    house = House()
    house.do_all(list(commands))
    return house


def redone(house):
    """The commands that can be redone, in their sequence; the house is behind them as ahead."""
    found = []
    while True:
        try:
            found.append(house.do(("redo",)))
        except NothingToRedo:
            break
    for _ in found:
        house.do(("undo",))
    return found


class Each(unittest.TestCase):
    def raises(self, error, house, command, *attributes):
        """The house tells the error with its attributes, and stays as it was, also what can be redone."""
        before, ahead = show(house), redone(house)
        with self.assertRaises(error) as caught:
            house.do(command)
        self.assertEqual(tuple(vars(caught.exception).values()), attributes)
        self.assertEqual((show(house), redone(house)), (before, ahead))

    def test_new_and_drop(self):
        house = House()
        self.assertEqual((house.names, house.labels, house.log), ([], [], []))
        self.assertEqual(house.do(command=("new", "c", CART)), CART)
        self.assertEqual((house.names, house.world_at(name="c"), house.arrivals_at(name="c"), house.readings_at(name="c")), (["c"], CART, [], []))
        house.do(("new", "b", OTHER))
        self.assertEqual(house.names, ["b", "c"])
        self.raises(TakenWorld, house, ("new", "c", OTHER), "c")
        self.assertEqual(house.do(("drop", "c")), CART)
        self.assertEqual(house.names, ["b"])
        self.raises(UnknownWorld, house, ("drop", "c"), "c")
        for call in [house.world_at, house.arrivals_at, house.readings_at]:
            with self.assertRaises(UnknownWorld) as caught:
                call("c")
            self.assertEqual(caught.exception.name, "c")
        self.assertEqual(house.log, [("new", "c", CART), ("new", "b", OTHER), ("drop", "c")])

    def test_read(self):
        house = House()
        self.assertEqual(house.do(("read", "c", TEXT)), ["x"])
        self.assertEqual(house.world_at("c"), (1, 2, [((-1,), 0)], [[((-1, 1), 2)]], [("a", (1,), (1, 1))]))
        self.assertEqual(house.arrivals_at("c"), [("hear", R), ("hear", ("q", "a", 0, (1, 1))), ("back", "q")])
        self.assertEqual(house.readings_at("c"), [R])
        self.assertEqual(house.do(("read", "d", "unknowns x y\nmoments 1")), ["x", "y"])
        self.raises(TakenWorld, house, ("read", "c", "?"), "c")
        self.raises(BadText, house, ("read", "e", "unknowns x\nmoments ?"), 2, 8)
        self.raises(LackingStatement, house, ("read", "e", ""), "unknowns")
        self.raises(TakenName, house, ("read", "e", TEXT + "\nreading r a at 1 = 5"), "r", 9)
        # A label told again behind `back` is one reading of the sheet more, but it is taken for a keeper.
        again = TEXT + "\nreading q a at 0 = 2"
        self.raises(TakenLabel, house, ("read", "e", again), "q")
        lines = "\n".join(["ask 0 <= 1"] * 31)
        self.raises(TooMany, house, ("read", "e", again + "\n" + lines), "questions", 30)
        self.assertEqual(house.do(("read", "e", TEXT + "\nreading q a at 0 = 1")), ["x"])
        self.assertEqual(house.readings_at("e"), [R])
        back = "\n".join(f"reading r{k} a at 0 = 1\nback r{k}" for k in range(151))
        self.raises(TooMany, house, ("read", "f", TEXT + "\n" + back), "arrivals", 300)

    def test_take(self):
        house = housed(("new", "c", CART))
        told = [house.do(("take", "c", arrival)) for arrival in [("hear", R), ("hear", R), ("back", "s"), ("hear", S), ("back", "r")]]
        self.assertEqual(told, ["new", "known", "ahead", "gone", "gone"])
        self.assertEqual(house.arrivals_at("c"), [("hear", R), ("hear", R), ("back", "s"), ("hear", S), ("back", "r")])
        self.assertEqual((house.readings_at("c"), len(house.log)), ([], 6))
        self.raises(UnknownWorld, house, ("take", "d", None), "d")
        for value in STRANGE + [("hear", ("r", "b", 1, (5, 1))), ("hear", ("r", "a", True, (5, 1))), ["hear", R]]:
            self.raises(InvalidArrival, house, ("take", "c", value), value)
        self.raises(TakenLabel, house, ("take", "c", ("hear", R2)), "r")
        full = housed(("new", "c", CART), *[("take", "c", ("hear", (f"r{k}", "a", 0, (k, 1)))) for k in range(30)])
        self.raises(TooMany, full, ("take", "c", ("hear", R)), "readings", 30)
        self.assertEqual(full.do(("take", "c", ("back", "r0"))), "gone")

    def test_merge(self):
        house = housed(("new", "c", CART), ("new", "d", CART), ("new", "e", OTHER), ("take", "c", ("hear", R)), ("take", "d", ("hear", S)),
                       ("take", "d", ("hear", S)), ("take", "d", ("back", "q")), ("take", "d", ("hear", R)))
        expected = lacking(house.arrivals_at("d"), house.arrivals_at("c"))
        self.assertEqual(expected, [("back", "q"), ("hear", S)])
        self.assertEqual(house.do(("merge", "c", "d")), expected)
        self.assertEqual(house.arrivals_at("c"), [("hear", R)] + expected)
        self.assertEqual(len(house.arrivals_at("d")), 4)
        self.assertEqual([house.do(("merge", "c", "d")), house.do(("merge", "d", "d")), house.do(("merge", "d", "c"))], [[], [], []])
        self.raises(UnknownWorld, house, ("merge", "x", "y"), "x")
        self.raises(UnknownWorld, house, ("merge", "c", "y"), "y")
        self.raises(UnlikeWorlds, house, ("merge", "c", "e"), "c", "e")
        house.do_all([("new", "f", CART), ("take", "f", ("hear", R2)), ("take", "f", ("back", "z"))])
        self.raises(TakenLabel, house, ("merge", "c", "f"), "r")
        self.raises(TakenLabel, house, ("merge", "f", "c"), "r")
        thirty = [("take", "g", ("hear", (f"r{k}", "a", 0, (k, 1)))) for k in range(30)]
        house.do_all([("new", "g", CART)] + thirty)
        self.raises(TooMany, house, ("merge", "g", "c"), "readings", 30)

    def test_told_and_ask(self):
        house = housed(("new", "c", CART), ("take", "c", ("hear", R)))
        self.assertEqual([house.do(("told", "c", moment)) for moment in (0, 1)], [set_everywhere(CART, [R], moment) for moment in (0, 1)])
        for moment in (2, 9):
            self.raises(MissingMoment, house, ("told", "c", moment), moment)
        self.raises(UnknownWorld, house, ("told", "d", 9), "d")
        self.assertEqual(house.do(("ask", "c", ("extra",))), answer_to(CART, [R], ("extra",)))
        self.raises(UnknownWorld, house, ("ask", "d", None), "d")
        for value in STRANGE + [("set", 2), ("course", 1)]:
            self.raises(UnfitQuestion, house, ("ask", "c", value), value)
        eleven = [("take", "c", ("hear", (f"q{k}", "a", 0, (4, 1)))) for k in range(10)]
        self.assertEqual(len(house.do_all(eleven)), 10)
        self.raises(TooMany, house, ("ask", "c", ("conflicts",)), "readings", 10)
        self.assertEqual(len(house.log), 12)

    def test_rows_of_told(self):
        world, readings = folded()
        house = housed(("new", "c", world), *[("take", "c", ("hear", reading)) for reading in readings])
        self.raises(TooMany, house, ("told", "c", 0), "rows", 200)
        self.raises(TooMany, house, ("note", "n", "c", ("set", 0)), "rows", 200)
        self.assertEqual(house.do(("told", "c", 7)), set_everywhere(world, readings, 7))

    def test_note(self):
        house = housed(("new", "c", CART), ("take", "c", ("hear", R)))
        self.assertEqual(house.do(("note", "n1", "c", ("set", 0))), set_everywhere(CART, [R], 0))
        name, question, answer = house.note(label="n1")
        self.assertEqual((name, question), ("c", ("set", 0)))
        self.assertTrue(is_answer(CART, [R], question, answer))
        self.assertEqual((house.gist_of(label="n1"), house.status(label="n1")), (gist(question, answer), "fresh"))
        self.raises(TakenNote, house, ("note", "n1", "x", None), "n1")
        self.raises(UnknownWorld, house, ("note", "n2", "x", None), "x")
        for value in STRANGE:
            self.raises(UnfitQuestion, house, ("note", "n2", "c", value), value)
        house.do_all([("take", "c", ("hear", (f"q{k}", "a", 0, (4, 1)))) for k in range(10)])
        self.raises(TooMany, house, ("note", "n2", "c", ("conflicts",)), "readings", 10)
        for call in [house.note, house.status, house.gist_of]:
            with self.assertRaises(UnknownNote) as caught:
                call("n2")
            self.assertEqual(caught.exception.label, "n2")

    def test_attach(self):
        house = housed(("new", "c", CART), ("take", "c", ("hear", R)))
        answer = ("yes", [[(3, 1)], [(5, 1)]])
        self.assertEqual(house.do(("attach", "n1", "c", ("course",), answer)), "yes")
        self.assertEqual(house.note("n1"), ("c", ("course",), answer))
        self.raises(TakenNote, house, ("attach", "n1", "x", None, None), "n1")
        self.raises(UnknownWorld, house, ("attach", "n2", "x", None, None), "x")
        self.raises(UnfitQuestion, house, ("attach", "n2", "c", ("set", 2), None), ("set", 2))
        for value in STRANGE + [("yes", [[(9, 1)], [(5, 1)]]), answer_to(CART, [R], ("extra",)), ["yes", answer[1]], ("no", [])]:
            self.raises(UnfitAnswer, house, ("attach", "n2", "c", ("course",), value), value)
        self.raises(UnfitAnswer, house, ("attach", "n2", "c", ("set", 0), answer_to(CART, [R], ("set", 1))), answer_to(CART, [R], ("set", 1)))
        house.do_all([("take", "c", ("hear", (f"q{k}", "a", 0, (4, 1)))) for k in range(10)])
        # No TooMany here: with more than ten readings nothing is an answer.
        self.raises(UnfitAnswer, house, ("attach", "n2", "c", ("conflicts",), ([], [([], answer[1])])), ([], [([], answer[1])]))

    def test_renew_and_forget(self):
        house = housed(("new", "c", CART), ("note", "n1", "c", ("course",)), ("note", "n2", "c", ("set", 1)))
        self.raises(UnknownNote, house, ("renew", "n3"), "n3")
        self.raises(UnknownNote, house, ("forget", "n3"), "n3")
        house.do(("take", "c", ("hear", ("r", "a", 0, (-9, 1)))))
        self.assertEqual((house.gist_of("n1"), house.status("n1")), ("yes", "stale"))
        self.assertEqual(house.do(("renew", "n1")), "no")
        self.assertEqual((house.gist_of("n1"), house.status("n1"), house.status("n2")), ("no", "fresh", "stale"))
        self.assertEqual(house.note("n1")[2], answer_to(CART, house.readings_at("c"), ("course",)))
        told = house.note("n2")[2]
        self.assertEqual(house.do(("forget", "n2")), told)
        self.assertEqual(house.labels, ["n1"])
        house.do(("drop", "c"))
        self.raises(UnknownWorld, house, ("renew", "n1"), "c")
        house.do_all([("new", "c", OTHER), ("note", "n2", "c", ("spread", 1, 0)), ("drop", "c"), ("new", "c", (2, 1, [], [], []))])
        self.assertEqual(house.do(("renew", "n2")), [("shape", 2, [], [[(0, 1), (0, 1)]], [(-1, 0), (0, -1), (0, 1), (1, 0)])])
        house = housed(("new", "c", CART), ("note", "n", "c", ("set", 1)), ("drop", "c"), ("new", "c", OTHER))
        self.raises(UnfitQuestion, house, ("renew", "n"), ("set", 1))
        house = housed(("new", "c", CART), ("note", "n", "c", ("conflicts",)), *[("take", "c", ("hear", (f"q{k}", "a", 0, (4, 1)))) for k in range(11)])
        self.assertEqual(house.status("n"), "stale")
        self.raises(TooMany, house, ("renew", "n"), "readings", 10)

    def test_any_value(self):
        house = housed(("new", "c", CART), ("undo",))
        for value in STRANGE + ["undo", ["undo"], ("undo", 1), ("new", "c"), ("told", "c", True), ("take", "C", None), ("new", "c", list(CART))]:
            self.raises(InvalidCommand, house, value, value)

    def test_each_of_each_kind(self):
        for word, told in [("take", "c"), ("ask", "c")]:
            house = housed(("new", "c", CART))
            self.assertTrue(is_command((word, told, NESTED)))
            with self.assertRaises((InvalidArrival, UnfitQuestion)):
                house.do((word, told, NESTED))


NESTED = ()
for _ in range(37):
    NESTED = (NESTED, [])


class Statuses(unittest.TestCase):
    def test_each_word(self):
        house = housed(("new", "c", CART), ("note", "n", "c", ("set", 1)), ("note", "m", "c", ("course",)))

        def statuses():
            return [house.status("m"), house.status("n")]
        self.assertEqual(statuses(), ["fresh", "fresh"])
        house.do(("take", "c", ("back", "z")))
        self.assertEqual(statuses(), ["fresh", "fresh"])
        house.do(("take", "c", ("hear", R)))
        self.assertEqual(statuses(), ["carried", "stale"])
        house.do(("take", "c", ("back", "r")))
        self.assertEqual(statuses(), ["fresh", "fresh"])
        house.do(("drop", "c"))
        self.assertEqual(statuses(), ["lost", "lost"])
        # Another world of that name: one moment alone, so ("set", 1) is no question of it.
        house.do(("new", "c", OTHER))
        self.assertEqual(statuses(), ["carried", "stale"])
        house.do_all([("drop", "c"), ("new", "c", CART)])
        self.assertEqual(statuses(), ["fresh", "fresh"])
        house.do_all([("take", "c", ("hear", R)), ("renew", "m"), ("renew", "n")])
        self.assertEqual(statuses(), ["fresh", "fresh"])
        house.do(("take", "c", ("hear", ("r9", "a", 1, (5, 1)))))
        self.assertEqual(statuses(), ["carried", "carried"])

    def test_of_an_attached_answer(self):
        house = housed(("new", "c", CART), ("attach", "n", "c", ("course",), ("yes", [[(50, 1)], [(50, 1)]])))
        self.assertEqual(house.status("n"), "fresh")
        house.do(("take", "c", ("hear", R)))
        # The course that was attached is not allowed any more, but there is one still.
        self.assertEqual((house.status("n"), house.gist_of("n")), ("carried", "yes"))
        house.do(("take", "c", ("hear", ("s", "a", 0, (-9, 1)))))
        self.assertEqual((house.status("n"), house.gist_of("n")), ("stale", "yes"))

    def test_conflicts_of_a_doubled_reading(self):
        house = housed(("new", "c", CART), ("take", "c", ("hear", R)), ("note", "n", "c", ("conflicts",)), ("take", "c", ("hear", ("r0", "a", 1, (5, 1)))))
        self.assertEqual(house.status("n"), "carried")
        house.do(("take", "c", ("hear", ("s", "a", 0, (90, 1)))))
        self.assertEqual(house.status("n"), "stale")

    def test_many_readings(self):
        takes = [("take", "c", ("hear", (f"q{k}", "a", 0, (4, 1)))) for k in range(12)]
        house = housed(("new", "c", CART), *takes[:9], ("note", "n", "c", ("conflicts",)))
        self.assertEqual(house.status("n"), "fresh")
        house.do(takes[9])
        self.assertEqual(house.status("n"), "carried")
        house.do(takes[10])
        self.assertEqual(house.status("n"), "stale")
        house.do_all([("undo",), ("undo",)])
        self.assertEqual(house.status("n"), "fresh")


class Undoing(unittest.TestCase):
    COMMANDS = [("new", "c", CART), ("read", "d", TEXT), ("take", "c", ("hear", R)), ("note", "n", "c", ("reach", [(0, (1,))], [])),
                ("attach", "m", "c", ("course",), ("yes", [[(3, 1)], [(5, 1)]])), ("take", "c", ("hear", S)), ("renew", "n"),
                ("new", "e", CART), ("merge", "e", "c"), ("forget", "m"), ("drop", "c"), ("new", "c", OTHER), ("note", "k", "d", ("extra",))]

    def test_up_and_down(self):
        house = House()
        seen = [show(house)]
        for command in self.COMMANDS:
            house.do(command)
            seen.append(show(house))
        self.assertEqual(len({repr(state) for state in seen}), len(seen))
        for k in reversed(range(len(self.COMMANDS))):
            self.assertEqual(house.do(("undo",)), self.COMMANDS[k])
            self.assertEqual(show(house), seen[k])
        with self.assertRaises(NothingToUndo):
            house.do(("undo",))
        for k, command in enumerate(self.COMMANDS):
            self.assertEqual(house.do(("redo",)), command)
            self.assertEqual(show(house), seen[k + 1])
        with self.assertRaises(NothingToRedo):
            house.do(("redo",))
        for many in (1, 5, len(self.COMMANDS)):
            for _ in range(many):
                house.do(("undo",))
            house.do_all([("redo",)] * many)
            self.assertEqual(show(house), seen[-1])

    def test_nothing_there(self):
        house = House()
        for command, error in [(("undo",), NothingToUndo), (("redo",), NothingToRedo)]:
            with self.assertRaises(error) as caught:
                house.do(command)
            self.assertEqual(vars(caught.exception), {})
        house.do(("new", "c", CART))
        with self.assertRaises(NothingToRedo):
            house.do(("redo",))

    def test_a_deed_between(self):
        house = housed(("new", "c", CART), ("new", "d", CART), ("undo",))
        # What is no deed, and a deed that raises an error, stands not between.
        house.do(("told", "c", 0))
        house.do(("ask", "c", ("course",)))
        for bad in [("new", "c", OTHER), ("take", "c", None), ("renew", "z"), ("note", "n", "c", ("set", 9)), None]:
            with self.assertRaises(Exception):
                house.do(bad)
        self.assertEqual(redone(house), [("new", "d", CART)])
        self.assertEqual(house.do(("redo",)), ("new", "d", CART))
        house.do_all([("undo",), ("undo",), ("redo",)])
        self.assertEqual(redone(house), [("new", "d", CART)])
        house.do(("take", "c", ("back", "q")))
        with self.assertRaises(NothingToRedo):
            house.do(("redo",))
        self.assertEqual(house.log, [("new", "c", CART), ("take", "c", ("back", "q"))])
        # Also a known arrival is a deed.
        house.do_all([("undo",), ("take", "c", ("back", "q"))])
        self.assertEqual(redone(house), [])

    def test_answers_stay_as_they_were_made(self):
        house = housed(("new", "c", CART), ("take", "c", ("hear", R)))
        for k, word in enumerate(WORDS):
            question = made_asked(MadeWorlds(7), CART, word)
            house.do(("note", f"n{k}", "c", question))
        before = [house.note(label) for label in house.labels]
        house.do_all([("undo",)] * 12 + [("redo",)] * 12)
        self.assertEqual([house.note(label) for label in house.labels], before)

    def test_again(self):
        house = housed(*self.COMMANDS)
        self.assertEqual(show(House.again(commands=house.log)), show(house))
        house.do_all([("undo",), ("undo",), ("new", "f", OTHER)])
        again = House.again(house.log)
        self.assertEqual(show(again), show(house))
        self.assertEqual(redone(again), [])
        self.assertEqual(show(House.again([])), ([], [], []))
        self.assertEqual(show(house.again([("new", "c", CART)])), show(housed(("new", "c", CART))))

    def test_made(self):
        """Commands of all words, in a fixed sequence: the house against one made again from its log, and undone."""
        counts = {}
        for seed in range(25):
            made = MadeWorlds(400 + seed)
            worlds = [made.world(moments=made.number(1, 2)) for _ in range(2)] + [CART]
            house, states, ahead = House(), [show(House())], []
            for _ in range(60):
                command = self.made_command(made, worlds, house)
                before = show(house)
                try:
                    told = house.do(command)
                except (LookupError, ValueError, RuntimeError, ArithmeticError) as error:
                    counts[type(error).__name__] = counts.get(type(error).__name__, 0) + 1
                    self.assertEqual(show(house), before)
                    continue
                counts[command[0]] = counts.get(command[0], 0) + 1
                now = show(house)
                if command == ("undo",):
                    self.assertEqual((told, now), (before[2][-1], states[-2]))
                    ahead.append((told, states.pop()))
                elif command == ("redo",):
                    self.assertEqual((told, now), ahead[-1])
                    states.append(ahead.pop()[1])
                elif is_deed(command):
                    self.assertEqual(now[2], before[2] + [command])
                    states.append(now)
                    ahead = []
                else:
                    self.assertEqual(now, before)
            self.assertEqual(show(House.again(house.log)), show(house))
        self.assertTrue({"new", "drop", "take", "merge", "note", "renew", "forget", "told", "ask", "undo", "redo"} <= set(counts), counts)

    def made_command(self, made, worlds, house):
        name, label = made.one_of(["c", "d"]), made.one_of(["n", "m", "k"])
        held = house.world_at(name) if name in house.names else CART
        word = made.one_of(["new", "drop", "take", "take", "take", "merge", "note", "note", "renew", "forget", "told", "ask", "undo", "undo", "redo"])
        parts = {"new": (name, made.one_of(worlds)), "drop": (name,), "merge": (name, made.one_of(["c", "d"])), "renew": (label,),
                 "forget": (label,), "told": (name, made.number(0, 1)), "undo": (), "redo": ()}
        if word == "take":
            readings = made.readings(held, 2) if held[4] else []
            return (word, name, made.one_of([("hear", reading) for reading in readings] + [("back", made.one_of(["r0", "r1"]))]))
        if word in ("note", "ask"):
            question = made_asked(made, held, made.one_of(WORDS))
            return (word, label, name, question) if word == "note" else (word, name, question)
        return (word,) + parts[word]


class Lists(unittest.TestCase):
    GOOD = [("new", "c", CART), ("take", "c", ("hear", R)), ("told", "c", 0), ("note", "n", "c", ("course",)), ("undo",), ("redo",)]

    def test_all_or_none(self):
        for method in ("do_all", "attempt"):
            house = housed(("new", "b", OTHER), ("new", "z", OTHER), ("undo",))
            before, ahead = show(house), redone(house)
            self.assertEqual(len(ahead), 1)
            for bad in [("new", "b", CART), None, ("take", "c", 1), ("redo", 1), ("renew", "q"), ("told", "c", 7), ("new", "c", CART)]:
                for place in range(1, len(self.GOOD) + 1):
                    commands = self.GOOD[:place] + [bad] + self.GOOD[place:]
                    with self.assertRaises(CommandFailed) as caught:
                        getattr(house, method)(commands)
                    self.assertEqual(caught.exception.place, place)
                    self.assertEqual((show(house), redone(house)), (before, ahead))
            with self.assertRaises(CommandFailed) as caught:
                getattr(house, method)([None, None])
            self.assertEqual(caught.exception.place, 0)
            self.assertEqual(getattr(house, method)([]), [])
            for value in STRANGE:
                with self.assertRaises(CommandFailed) as caught:
                    getattr(house, method)([self.GOOD[0], value])
                self.assertEqual(caught.exception.place, 1)
            self.assertEqual((show(house), redone(house)), (before, ahead))

    def test_do_all(self):
        house = House()
        told = house.do_all(commands=self.GOOD)
        self.assertEqual(told, [CART, "new", set_everywhere(CART, [R], 0), "yes", self.GOOD[3], self.GOOD[3]])
        self.assertEqual(house.log, [self.GOOD[0], self.GOOD[1], self.GOOD[3]])
        other = House()
        self.assertEqual([other.do(command) for command in self.GOOD], told)
        self.assertEqual(show(other), show(house))

    def test_attempt(self):
        house = housed(("new", "b", OTHER), ("note", "n", "b", ("extra",)), ("new", "z", OTHER), ("undo",))
        before, ahead = show(house), redone(house)
        self.assertEqual(house.attempt(commands=[("redo",), ("undo",), ("undo",), ("undo",), ("redo",), ("forget", "x")][:5])[0], ahead[0])
        self.assertEqual((show(house), redone(house)), (before, ahead))
        told = house.attempt([("new", "c", CART), ("take", "c", ("hear", R)), ("forget", "n"), ("drop", "b"), ("told", "c", 1)])
        self.assertEqual((told[0], told[1], told[4]), (CART, "new", set_everywhere(CART, [R], 1)))
        self.assertEqual((show(house), redone(house)), (before, ahead))
        self.assertEqual(house.do(("redo",)), ("new", "z", OTHER))


class Limits(unittest.TestCase):
    def test_worlds(self):
        house = housed(*[("new", f"w{k}", OTHER) for k in range(12)])
        for command in [("new", "x", OTHER), ("read", "x", TEXT)]:
            with self.assertRaises(TooMany) as caught:
                house.do(command)
            self.assertEqual((caught.exception.what, caught.exception.limit), ("worlds", 12))
        for command, error in [(("new", "w3", OTHER), TakenWorld), (("read", "x", "?"), BadText)]:
            with self.assertRaises(error):
                house.do(command)
        self.assertEqual((len(house.names), len(house.log)), (12, 12))
        house.do_all([("drop", "w3"), ("read", "x", TEXT), ("take", "x", ("hear", S))])
        self.assertEqual(len(house.names), 12)
        self.assertEqual(house.do(("undo",)), ("take", "x", ("hear", S)))

    def test_notes(self):
        house = housed(("new", "c", CART), *[("note", f"n{k}", "c", ("course",)) for k in range(20)])
        answer = house.note("n0")[2]
        for command in [("note", "x", "c", ("course",)), ("attach", "x", "c", ("course",), answer)]:
            with self.assertRaises(TooMany) as caught:
                house.do(command)
            self.assertEqual((caught.exception.what, caught.exception.limit), ("notes", 20))
        for command, error in [(("note", "n3", "c", ("course",)), TakenNote), (("note", "x", "d", None), UnknownWorld),
                               (("note", "x", "c", None), UnfitQuestion), (("attach", "x", "c", ("course",), None), UnfitAnswer)]:
            with self.assertRaises(error):
                house.do(command)
        self.assertEqual(house.do(("renew", "n3")), "yes")
        house.do_all([("forget", "n3"), ("attach", "x", "c", ("course",), answer)])
        self.assertEqual((len(house.labels), house.status("x")), (20, "fresh"))

    def test_deeds(self):
        house = housed(("new", "c", CART), ("note", "n", "c", ("course",)), *[("take", "c", ("back", f"x{k}")) for k in range(58)])
        self.assertEqual(len(house.log), 60)
        before = show(house)
        answer = house.note("n")[2]
        for command in [("new", "d", CART), ("read", "d", TEXT), ("drop", "c"), ("take", "c", ("back", "q")), ("take", "c", ("back", "x0")),
                        ("merge", "c", "c"), ("note", "m", "c", ("course",)), ("attach", "m", "c", ("course",), answer), ("renew", "n"),
                        ("forget", "n")]:
            with self.assertRaises(TooMany) as caught:
                house.do(command)
            self.assertEqual((caught.exception.what, caught.exception.limit), ("deeds", 60))
        for command, error in [(("new", "c", CART), TakenWorld), (("drop", "d"), UnknownWorld), (("take", "c", 1), InvalidArrival),
                               (("renew", "x"), UnknownNote), (("note", "m", "c", ("set", 2)), UnfitQuestion)]:
            with self.assertRaises(error):
                house.do(command)
        self.assertEqual(show(house), before)
        self.assertEqual(house.do(("told", "c", 0)), set_everywhere(CART, [], 0))
        self.assertEqual(house.do(("ask", "c", ("extra",)))[:2], ("extra", (0, 1)))
        house.do_all([("undo",), ("redo",), ("undo",), ("drop", "c")])
        self.assertEqual(len(house.log), 60)
        self.assertEqual(show(House.again(house.log)), show(house))

    def test_worlds_ahead_of_deeds(self):
        commands = [("new", f"w{k}", OTHER) for k in range(12)]
        house = housed(*commands, *[("take", "w0", ("back", "q"))] * 48)
        with self.assertRaises(TooMany) as caught:
            house.do(("new", "x", OTHER))
        self.assertEqual(caught.exception.what, "worlds")
        house = housed(("new", "c", CART), *[("note", f"n{k}", "c", ("course",)) for k in range(20)], *[("take", "c", ("back", "q"))] * 39)
        with self.assertRaises(TooMany) as caught:
            house.do(("note", "x", "c", ("course",)))
        self.assertEqual(caught.exception.what, "notes")


class Sharing(unittest.TestCase):
    def spoil(self, value):
        """Change all lists in a value."""
        if isinstance(value, (list, tuple)):
            for part in value:
                self.spoil(part)
        if isinstance(value, list):
            value.append("z")

    def test_nothing_is_shared(self):
        house = House()
        world = (1, 2, [((-1,), 0)], [[((-1, 1), 2), ((1, -1), 0)]], [("a", (1,), (1, 1))])
        question = ("saying", ("all", [([(0, (1,))], 3)]), [([(1, (1,))], 4)])
        value = ("yes", [[(3, 1)], [(5, 1)]])
        commands = [("new", "c", world), ("take", "c", ("hear", R)), ("note", "n", "c", question), ("attach", "m", "c", ("course",), value),
                    ("note", "k", "c", ("spread", 1, 0)), ("note", "j", "c", ("set", 0))]
        for command in commands:
            told = house.do(command)
            before = show(house)
            self.spoil(told)
            self.assertEqual(show(house), before)
        before = show(house)
        self.spoil(commands)
        self.assertEqual(show(house), before)
        for told in [house.names, house.labels, house.log, house.world_at("c"), house.arrivals_at("c"), house.readings_at("c")]:
            self.spoil(told)
        for label in house.labels:
            self.spoil(house.note(label))
            self.spoil(house.gist_of(label))
        for command in [("told", "c", 0), ("ask", "c", ("set", 0)), ("undo",), ("redo",)]:
            self.spoil(house.do(command))
        self.assertEqual(show(house), before)
        self.assertEqual(house.world_at("c"), CART)

    def test_commands_stay_as_they_were(self):
        commands = Undoing.COMMANDS
        before = repr(commands)
        housed(*commands).attempt([commands[5][:1] + ("d",) + commands[5][2:]])
        self.assertEqual(repr(commands), before)

    def test_readings_are_those_of_the_arrivals(self):
        house = housed(*Undoing.COMMANDS)
        for name in house.names:
            self.assertEqual(house.readings_at(name), standing_readings(house.arrivals_at(name)))


if __name__ == "__main__":
    unittest.main()
