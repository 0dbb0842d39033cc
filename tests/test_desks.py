"""Desks: what they hear, their letters, counts, and exchanges; desks that know the same tell the same."""

import copy
import unittest

from allreadings.arrivals import merged, settled_arrivals, standing_readings
from allreadings.desks import Desk, exchange, is_letter, know_same
from allreadings.errors import InvalidArrival, InvalidLetter, InvalidMany, MissingMoment, TakenLabel, TooMany, UnknownDesk
from allreadings.everywhere import set_everywhere
from allreadings.keeping import keeper_of
from allreadings.setpapers import is_set_paper
from tests.made import BIG, STRANGE, MadeWorlds, changed, made_moments, with_bools, with_kinds

CART = (1, 2, [((-1,), 0)], [[((-1, 1), 2), ((1, -1), 0)]], [("a", (1,), (1, 1))])
R, S, T = ("r", "a", 1, (5, 1)), ("s", "a", 0, (4, 1)), ("t", "a", 1, (6, 1))
R2 = ("r", "a", 1, (6, 1))


def pair(world=CART):
    return Desk("one", world, ["other"]), Desk("other", world, ["one"])


def state_of(desk):
    """All that a desk shows."""
    fellows = desk.fellows
    return copy.deepcopy((desk.called, desk.world, fellows, desk.roll, desk.readings, [desk.had_from(name) for name in fellows],
                          [desk.acked_by(name) for name in fellows]))


def many_arrivals(count, first=0):
    """So many arrivals, of which most take back what was never heard."""
    return [("back", f"x{k}") for k in range(first, first + count)]


class Letters(unittest.TestCase):
    GOOD = [("one", "other", 0, [], 0), ("a", "b", 260, many_arrivals(40), 300), ("a", "b", 300, [], 0),
            ("one", "other", 7, [("hear", R), ("back", "r"), ("hear", R)], 1), ("one", "other", 1, [("hear", R), ("hear", R2)], 0)]

    def test_good(self):
        for letter in self.GOOD:
            self.assertIs(is_letter(world=CART, value=letter), True)
            for other in [*with_bools(letter), *with_kinds(letter)]:
                self.assertIs(is_letter(CART, other), False, other)

    def test_any_value(self):
        bad = [("one", "one", 0, [], 0), ("one", "Other", 0, [], 0), ("one", "", 0, [], 0), (None, "one", 0, [], 0), ("one", ["a"], 0, [], 0),
               ("one", "other", -1, [], 0), ("one", "other", 0, [], -1), ("one", "other", 0, [], 301), ("one", "other", 301, [], 0),
               ("one", "other", 300, many_arrivals(1), 0), ("one", "other", 261, many_arrivals(40), 0), ("one", "other", 0, many_arrivals(41), 0),
               ("one", "other", 0, many_arrivals(301), 0), ("one", "other", BIG, [], 0), ("one", "other", 0, [], BIG),
               ("one", "other", 0, [("hear", ("r", "b", 1, (5, 1)))], 0), ("one", "other", 0, [("hear", ("r", "a", 2, (5, 1)))], 0),
               ("one", "other", 0, ["r"], 0), ("one", "other", 0, [None], 0), ("one", "other", 0, None, 0), ("one", "other", 0, []),
               ("one", "other", 0, [], 0, 0), ["one", "other", 0, [], 0], ("one", "other", "0", [], 0), ("one", "other", 0, [], None)]
        for value in STRANGE + bad:
            self.assertIs(is_letter(CART, value), False, value)
        for letter in self.GOOD:
            for value in STRANGE:
                for place in range(5):
                    other = letter[:place] + (value,) + letter[place + 1:]
                    told = is_letter(CART, other)
                    self.assertIsInstance(told, bool)
                    if told:
                        self.assertTrue((place in (0, 1) and value != letter[1 - place] and type(value) is str) or type(value) is int
                                        or (place == 3 and value == [] and type(value) is list), other)
            for other in changed(letter):
                self.assertIsInstance(is_letter(CART, other), bool)

    def test_written(self):
        one, other = pair()
        for arrival in many_arrivals(45):
            one.take_back(arrival[1])
        self.assertEqual(one.letter("other"), ("one", "other", 0, many_arrivals(40), 0))
        self.assertEqual(one.letter(fellow="other", most=0), ("one", "other", 0, [], 0))
        self.assertEqual(one.letter("other", most=2), ("one", "other", 0, many_arrivals(2), 0))
        other.take_back("y")
        # What other says it had is where the next letter begins.
        self.assertEqual(other.take_letter(one.letter("other", most=3)), many_arrivals(3))
        self.assertEqual(one.take_letter(value=other.letter("one", most=1)), [("back", "y")])
        self.assertEqual((one.acked_by("other"), one.had_from("other")), (3, 1))
        self.assertEqual(one.letter("other"), ("one", "other", 3, many_arrivals(40, 3), 1))
        self.assertEqual(len(one.letter("other", most=40)[3]), 40)
        self.assertTrue(is_letter(CART, one.letter("other")))

    def test_most(self):
        one, _ = pair()
        for most in [-1, 41, BIG, True, False, None, "1", (1, 1), [], [1]]:
            for fellow in ("other", "nobody"):
                with self.assertRaises(InvalidMany) as caught:
                    one.letter(fellow, most=most)
                self.assertIs(caught.exception.value, most)
        with self.assertRaises(TypeError):
            one.letter("other", 3)
        for fellow in ["nobody", "one", "", "othe"]:
            for call in [lambda: one.letter(fellow), lambda: one.letter(fellow, most=0), lambda: one.had_from(fellow=fellow),
                         lambda: one.acked_by(fellow=fellow)]:
                with self.assertRaises(UnknownDesk) as caught:
                    call()
                self.assertEqual(caught.exception.name, fellow)


class Taking(unittest.TestCase):
    def test_counts(self):
        """HAD grows by what comes without a gap; ACKED up to the length of the roll."""
        one = Desk("one", CART, ["other", "third"])
        one.take_back("x0")
        backs = many_arrivals(9, 1)
        letters = [(("other", "one", 0, backs[:2], 0), 2, 0), (("other", "one", 3, backs[3:5], 0), 2, 0), (("other", "one", 0, [], 5), 2, 5),
                   (("other", "one", 2, backs[2:3], 6), 3, 6), (("other", "one", 2, backs[2:3], 7), 3, 6), (("other", "one", 0, backs[:1], 2), 3, 6),
                   (("other", "one", 1, backs[1:5], 0), 5, 6), (("other", "one", 5, [], 300), 5, 6), (("other", "one", 6, [], 0), 5, 6)]
        known = ["x0"]
        for letter, had, acked in letters:
            expected = [arrival for arrival in letter[3] if arrival[1] not in known]
            self.assertEqual(one.take_letter(letter), expected)
            known += [arrival[1] for arrival in expected]
            self.assertEqual((one.had_from("other"), one.acked_by("other")), (had, acked))
            self.assertEqual((one.had_from("third"), one.acked_by("third")), (0, 0))
        self.assertEqual(one.roll, [("back", label) for label in known])

    def test_doubled_in_one_letter(self):
        one, _ = pair()
        letter = ("other", "one", 0, [("hear", R), ("back", "s"), ("hear", R), ("back", "s")], 0)
        self.assertEqual(one.take_letter(letter), [("hear", R), ("back", "s")])
        self.assertEqual((one.roll, one.had_from("other")), ([("hear", R), ("back", "s")], 4))
        self.assertEqual((one.take_letter(letter), one.had_from("other")), ([], 4))

    def test_refused(self):
        one = Desk("one", CART, ["other", "third"])
        one.hear(R)
        before = state_of(one)
        good = ("other", "one", 0, [("back", "q")], 0)
        bad = [("nobody", "one", 0, [], 0), ("other", "third", 0, [], 0), ("one", "other", 0, [], 0), ("third", "other", 0, [], 0),
               ("other", "one", 0, [("back", "q")] * 41, 0), good + (1,), list(good)]
        for value in STRANGE + bad + [*with_bools(good), *with_kinds(good)]:
            with self.assertRaises(InvalidLetter) as caught:
                one.take_letter(value)
            self.assertIs(caught.exception.value, value)
            self.assertEqual(state_of(one), before)
        self.assertEqual(one.take_letter(good), [("back", "q")])

    def test_taken_label(self):
        one, other = pair()
        one.hear(R)
        other.take_back("q")
        other.hear(R2)
        before = state_of(one)
        for call in [lambda: one.take_letter(other.letter("one")), lambda: one.hear(R2),
                     lambda: one.take_letter(("other", "one", 0, [("back", "z"), ("hear", R2)], 1)),
                     lambda: one.take_letter(("other", "one", 0, [("hear", S), ("hear", ("s", "a", 0, (9, 1)))], 1))]:
            with self.assertRaises(TakenLabel) as caught:
                call()
            self.assertIn(caught.exception.label, ("r", "s"))
            self.assertEqual(state_of(one), before)
        with self.assertRaises(TakenLabel):
            exchange(one, other)

    def test_hearing(self):
        one, _ = pair()
        self.assertEqual([one.hear(reading=R), one.hear(R), one.take_back(label="s"), one.hear(S), one.take_back("s"), one.take_back("r"),
                          one.take_back("r"), one.hear(R), one.hear(T)],
                         ["new", "known", "ahead", "gone", "known", "gone", "known", "known", "new"])
        self.assertEqual((one.roll, one.readings), ([("hear", R), ("back", "s"), ("hear", S), ("back", "r"), ("hear", T)], [T]))
        before = state_of(one)
        for value in STRANGE + [("r", "b", 0, (1, 1)), ("r", "a", 2, (1, 1)), ("r", "a", True, (5, 1)), ("r", "a", 1, (5, True)), list(R)]:
            with self.assertRaises(InvalidArrival) as caught:
                one.hear(value)
            self.assertEqual(caught.exception.value, ("hear", value))
            if not isinstance(value, str) or value not in ("a", "point", "worth", "shape", "empty", "none"):
                with self.assertRaises(InvalidArrival) as caught:
                    one.take_back(value)
                self.assertEqual(caught.exception.value, ("back", value))
        self.assertEqual(state_of(one), before)

    def test_bounds(self):
        one, other = pair()
        for _, label in many_arrivals(300):
            self.assertEqual(one.take_back(label), "ahead")
        # A known one is not logged again, so it can come still.
        self.assertEqual((one.take_back("x7"), len(one.roll)), ("known", 300))
        for call in [lambda: one.take_back("y"), lambda: one.hear(R), lambda: one.take_letter(("other", "one", 0, [("back", "y")], 0))]:
            with self.assertRaises(TooMany) as caught:
                call()
            self.assertEqual((caught.exception.what, caught.exception.limit), ("arrivals", 300))
        self.assertEqual((len(one.roll), one.had_from("other")), (300, 0))
        self.assertEqual(one.take_letter(("other", "one", 0, [("back", "x0")], 300)), [])
        self.assertEqual((one.had_from("other"), one.acked_by("other")), (1, 300))
        self.assertEqual(one.letter("other"), ("one", "other", 300, [], 1))
        fresh, other = pair()
        for k in range(30):
            self.assertEqual(fresh.hear((f"r{k}", "a", 0, (k, 1))), "new")
        letter = ("other", "one", 0, [("back", "x"), ("hear", R)], 0)
        for call in [lambda: fresh.hear(R), lambda: fresh.take_letter(letter)]:
            with self.assertRaises(TooMany) as caught:
                call()
            self.assertEqual((caught.exception.what, caught.exception.limit), ("readings", 30))
        self.assertEqual((len(fresh.roll), fresh.had_from("other")), (30, 0))
        self.assertEqual(fresh.take_letter(("other", "one", 0, [("back", "r0"), ("hear", R)], 0)), [("back", "r0"), ("hear", R)])

    def test_nothing_is_shared(self):
        world = (1, 2, [((-1,), 0)], [[((-1, 1), 2), ((1, -1), 0)]], [("a", (1,), (1, 1))])
        fellows = ["other"]
        one = Desk(name="one", world=world, fellows=fellows)
        one.hear(R)
        before = state_of(one)
        world[2].clear()
        world[3][0].clear()
        fellows.append("z")
        for told in [one.world[2], one.world[3][0], one.fellows, one.roll, one.readings, one.letter("other")[3], one.told_at(0)[3]]:
            told.append(1)
        letter = ("other", "one", 0, [("back", "s")], 0)
        told = one.take_letter(letter)
        told.clear()
        letter[3].clear()
        self.assertEqual(one.roll, [("hear", R), ("back", "s")])
        self.assertEqual(state_of(one)[:3], before[:3])
        self.assertEqual(one.told_at(0), set_everywhere(CART, [R], 0))

    def test_told(self):
        one, _ = pair()
        one.hear(R)
        for moment in (0, 1):
            self.assertEqual(one.told_at(moment=moment), set_everywhere(CART, [R], moment))
            self.assertTrue(is_set_paper(CART, [R], moment, one.told_at(moment), one.paper_at(moment=moment)))
        for moment in [2, -1, True, None, "0"]:
            for function in (one.told_at, one.paper_at):
                with self.assertRaises(MissingMoment) as caught:
                    function(moment)
                self.assertEqual(caught.exception.moment, moment)


class Exchanges(unittest.TestCase):
    def test_letters_are_counted(self):
        one, other = pair()
        self.assertEqual(exchange(one=one, other=other), 2)
        one.hear(R)
        other.take_back("s")
        self.assertEqual(exchange(one, other), 6)
        self.assertEqual(exchange(one, other), 2)
        self.assertTrue(know_same(one=one, other=other))
        self.assertEqual((one.had_from("other"), one.acked_by("other"), other.had_from("one"), other.acked_by("one")), (2, 2, 2, 2))

    def test_models(self):
        """The number of letters, and what the desks come to know, against turns written out."""
        for seed in range(30):
            made = MadeWorlds(340 + seed)
            world = made.world()
            one, other = pair(world)
            for desk in (one, other):
                for _, told in [arrival for arrival in made.arrivals(world, 4) if arrival[0] == "back"] + [("back", "z" + desk.called)]:
                    desk.take_back(told)
                for _ in range(made.number(0, 60)):
                    desk.take_back(made.one_of(["q", "p"]) + str(made.number(0, 80)))
            heard = merged(one.roll, other.roll)
            rolls = {one: one.roll, other: other.roll}
            had, acked, letters = {one: 0, other: 0}, {one: 0, other: 0}, 0
            while True:
                before = (len(rolls[one]), len(rolls[other]), had[one], had[other], acked[one], acked[other])
                for writer, taker in ((one, other), (other, one)):
                    first, told, told_had = acked[writer], rolls[writer][acked[writer]:acked[writer] + 40], had[writer]
                    rolls[taker] = rolls[taker] + [arrival for arrival in told if arrival not in rolls[taker]]
                    had[taker] = max(had[taker], first + len(told)) if first <= had[taker] else had[taker]
                    acked[taker] = max(acked[taker], told_had) if told_had <= len(rolls[taker]) else acked[taker]
                    letters += 1
                if before == (len(rolls[one]), len(rolls[other]), had[one], had[other], acked[one], acked[other]):
                    break
            self.assertEqual(exchange(one, other), letters)
            self.assertEqual((one.roll, other.roll), (rolls[one], rolls[other]))
            self.assertEqual((one.had_from("other"), one.acked_by("other")), (had[one], acked[one]))
            self.assertTrue(know_same(one, other))
            self.assertEqual(settled_arrivals(one.roll), heard)

    def test_45_arrivals(self):
        one, other = pair()
        for arrival in many_arrivals(45):
            one.take_back(arrival[1])
        self.assertEqual(exchange(one, other), 8)
        self.assertEqual(other.roll, many_arrivals(45))

    def test_what_was_taken_ahead_stays(self):
        one, other = pair()
        for desk, reading in ((one, R), (other, R2)):
            for arrival in many_arrivals(40):
                desk.take_back(arrival[1] + desk.called[1])
            desk.hear(reading)
        with self.assertRaises(TakenLabel):
            exchange(one, other)
        self.assertEqual(other.roll[41:], many_arrivals_named(40, "n"))
        self.assertEqual((one.had_from("other"), other.had_from("one")), (40, 40))

    def test_full_rolls(self):
        one, other = pair()
        for k, desk in enumerate((one, other)):
            for arrival in many_arrivals(200, 200 * k):
                desk.take_back(arrival[1])
        with self.assertRaises(TooMany) as caught:
            exchange(one, other)
        self.assertEqual((caught.exception.what, caught.exception.limit), ("arrivals", 300))
        self.assertLessEqual(max(len(one.roll), len(other.roll)), 300)
        one, other = pair()
        for arrival in many_arrivals(300):
            one.take_back(arrival[1])
            other.take_back(arrival[1])
        # Eight turns for 300 arrivals, one in which the last count comes, and one that changes nothing.
        self.assertEqual(exchange(one, other), 20)
        self.assertEqual((one.acked_by("other"), other.acked_by("one")), (300, 300))


def many_arrivals_named(count, letter):
    return [("back", label + letter) for _, label in many_arrivals(count)]


class Together(unittest.TestCase):
    def test_three_desks(self):
        """Letters that are lost, doubled, late or in another sequence: what is known is what was heard and taken."""
        for seed in range(25):
            made = MadeWorlds(380 + seed)
            world = made.world()
            readings = made.readings(world, 5)
            desks = {name: Desk(name, world, [other for other in ("one", "two", "three") if other != name]) for name in ("one", "two", "three")}
            heard = {name: [] for name in desks}
            letters = []
            for _ in range(60):
                name = made.one_of(list(desks))
                kind = made.number(0, 5)
                if kind == 0:
                    reading = made.one_of(readings)
                    desks[name].hear(reading)
                    heard[name].append(("hear", reading))
                elif kind == 1:
                    desks[name].take_back(made.one_of(readings)[0] if made.number(0, 3) == 0 else made.one_of(["p", "q"]))
                    heard[name].append(desks[name].roll[-1] if desks[name].roll else ("back", "p"))
                elif kind == 2:
                    letters.append(desks[name].letter(made.one_of(desks[name].fellows), most=made.number(0, 4)))
                elif letters:
                    letter = made.one_of(letters)
                    new = desks[letter[1]].take_letter(letter)
                    self.assertTrue(all(arrival in letter[3] for arrival in new))
                    heard[letter[1]] += letter[3]
                for desk in desks.values():
                    for fellow in desk.fellows:
                        had = desk.had_from(fellow)
                        self.assertLessEqual(had, len(desks[fellow].roll))
                        self.assertTrue(all(arrival in desk.roll for arrival in desks[fellow].roll[:had]))
                        self.assertLessEqual(desk.acked_by(fellow), desks[fellow].had_from(desk.called))
            for name, desk in desks.items():
                self.assertEqual(len(set(desk.roll)), len(desk.roll))
                self.assertTrue(all(arrival in desk.roll for arrival in heard[name]))
            self.meet_all(desks)
            told = {name: [desk.told_at(moment) for moment in range(world[1])] for name, desk in desks.items()}
            self.assertEqual(told["one"], told["two"])
            self.assertEqual(told["one"], told["three"])
            standing = standing_readings(desks["one"].roll)
            self.assertEqual(told["one"], [set_everywhere(world, standing, moment) for moment in range(world[1])])
            self.assertEqual(desks["two"].readings, standing)

    def meet_all(self, desks):
        """Each two exchange, twice over; then all know the same."""
        names = list(desks)
        everything = settled_arrivals([arrival for desk in desks.values() for arrival in desk.roll])
        for _ in range(2):
            for k, name in enumerate(names):
                for other in names[k + 1:]:
                    exchange(desks[name], desks[other])
        for name in names:
            self.assertEqual(settled_arrivals(desks[name].roll), everything)
            self.assertTrue(all(know_same(desks[name], desks[other]) for other in names))

    def test_had_grows(self):
        """A letter from a fellow that knows the HAD makes it greater as long as something lacks."""
        one, other = pair()
        for arrival in many_arrivals(30):
            one.take_back(arrival[1])
        turns = 0
        while other.had_from("one") < len(one.roll):
            before = other.had_from("one")
            one.take_letter(other.letter("one"))
            other.take_letter(one.letter("other", most=1 + turns % 3))
            self.assertGreater(other.had_from("one"), before)
            turns += 1
        self.assertTrue(know_same(one, other))

    def test_know_same(self):
        one, other = pair()
        self.assertTrue(know_same(one, other))
        one.hear(R)
        one.take_back("q")
        self.assertFalse(know_same(one, other))
        other.take_back("q")
        self.assertFalse(know_same(one, other))
        other.hear(R)
        self.assertTrue(know_same(one, other))
        self.assertNotEqual(one.roll, other.roll)
        other.take_back("r")
        self.assertFalse(know_same(one, other))

    def test_as_a_keeper(self):
        for made, world, readings in made_moments(349, 20):
            if not world[4]:
                continue
            desk = Desk("d", world, [])
            arrivals = made.arrivals(world, 3)
            keeper = keeper_of(world, arrivals)
            for word, told in arrivals:
                desk.hear(told) if word == "hear" else desk.take_back(told)
            self.assertEqual(desk.readings, keeper.readings)
            self.assertEqual(desk.roll, [arrival for k, arrival in enumerate(arrivals) if arrival not in arrivals[:k]])
            for moment in range(world[1]):
                self.assertEqual(desk.told_at(moment), keeper.told_at(moment))


if __name__ == "__main__":
    unittest.main()
