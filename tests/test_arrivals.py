"""Arrivals: judged, settled, merged, lacking, late."""

import itertools
import unittest

from allreadings.arrivals import are_arrivals, first_taken, greatest_heard, is_arrival, lacking, lateness, merged
from allreadings.arrivals import settled_arrivals, standing_readings, state_in
from allreadings.errors import TakenLabel, TooMany
from tests.made import STRANGE, MadeWorlds, changed, with_bools, with_kinds

WORLD = (1, 3, [], [[], []], [("a", (1,), (1, 1)), ("b", (2,), (0, 1))])
R, S, T = ("r", "a", 1, (5, 1)), ("s", "a", 0, (1, 2)), ("t", "b", 2, (0, 1))
R2 = ("r", "a", 1, (6, 1))


def settled_by_words(arrivals):
    """The settled list, label by label."""
    found = []
    for label in sorted({told[0] if word == "hear" else told for word, told in arrivals}):
        for word, told in arrivals:
            if word == "hear" and told[0] == label and (word, told) not in found:
                found.append((word, told))
        if ("back", label) in arrivals:
            found.append(("back", label))
    return found


def made_lists(seed, count):
    made = MadeWorlds(seed)
    for _ in range(count):
        world = made.world(moments=made.number(1, 4))
        readings = made.readings(world, made.number(1, 5))
        yield made, world, [arrival_list(made, readings) for _ in range(3)]


def arrival_list(made, readings):
    found = []
    for _ in range(made.number(0, 8)):
        reading = made.one_of(readings)
        found.append(("back", made.one_of([reading[0], "zz"])) if made.number(0, 3) == 0 else ("hear", reading))
    return found


class Judges(unittest.TestCase):
    def test_arrivals(self):
        for value in [("hear", R), ("hear", T), ("back", "r"), ("back", "unheard1"), ("back", "at")]:
            self.assertIs(is_arrival(world=WORLD, value=value), True)
            for other in [*with_bools(value), *with_kinds(value)]:
                self.assertIs(is_arrival(WORLD, other), False, other)
                self.assertIs(are_arrivals(WORLD, [other]), False, other)
        for value in STRANGE + [
                ("hear", "r"), ("back", R), ("hear",), ("back",), ("hear", R, 1), ("hear", ("r", "c", 1, (5, 1))),
                ("hear", ("r", "a", 3, (5, 1))), ("back", "1"), ("back", "abcdefghi"), ("back", ""), ("back", None),
                ("back", ["r"]), (["hear"], R), (None, R), ("take", R), ("hear", None), ("hear", ("r", "a", True, (5, 1)))]:
            self.assertIs(is_arrival(WORLD, value), False, value)
            self.assertIs(are_arrivals(WORLD, [value]), False, value)
            if value != []:
                self.assertIs(are_arrivals(WORLD, value), False, value)

    def test_one_place_changed(self):
        for other in changed(("hear", R)):
            expected = isinstance(other, tuple) and len(other) == 2 and other[0] == "hear" and other[1] in [
                ("r", "a", moment, (above, below)) for moment in (0, 1, 2) for above in (4, 5, 6) for below in (1, 2)
                if (above, below) not in ((4, 2), (6, 2))] + [("rx",) + R[1:]]
            expected = expected and not any(isinstance(part, bool) for part in other[1] + other[1][3])
            self.assertIs(is_arrival(WORLD, other), expected, other)

    def test_lists(self):
        self.assertIs(are_arrivals(world=WORLD, value=[]), True)
        self.assertIs(are_arrivals(WORLD, [("hear", R), ("back", "s"), ("hear", R2)]), True)
        self.assertIs(are_arrivals(WORLD, (("hear", R),)), False)
        self.assertIs(are_arrivals(WORLD, [("hear", R)] * 300), True)
        self.assertIs(are_arrivals(WORLD, [("hear", R)] * 301), False)


class Taken(unittest.TestCase):
    def test_first_taken(self):
        self.assertIsNone(first_taken(arrivals=[]))
        self.assertIsNone(first_taken([("hear", R), ("hear", S), ("hear", R), ("back", "r"), ("hear", R)]))
        self.assertEqual(first_taken([("hear", R), ("back", "r"), ("hear", R2)]), 2)
        self.assertEqual(first_taken([("hear", S), ("hear", R2), ("hear", R), ("hear", R2)]), 2)
        for other in [("r", "b", 1, (5, 1)), ("r", "a", 2, (5, 1)), R2]:
            self.assertEqual(first_taken([("hear", R), ("hear", other)]), 1)

    def test_errors(self):
        bad = [("hear", S), ("hear", R), ("hear", R2), ("hear", ("s", "a", 1, (1, 1)))]
        for call in [lambda: standing_readings(bad), lambda: settled_arrivals(bad), lambda: merged(bad, []),
                     lambda: merged([], bad), lambda: lacking(bad, []), lambda: lacking([], bad),
                     lambda: merged(bad[:2], bad[2:]), lambda: lacking(bad[:2], bad[2:]), lambda: lacking(bad[:1], bad[1:])]:
            with self.assertRaises(TakenLabel) as caught:
                call()
            self.assertEqual(caught.exception.label, "r")
        with self.assertRaises(TakenLabel) as caught:
            merged([("hear", R), ("hear", S)], [("hear", bad[3][1]), ("hear", R2)])
        self.assertEqual(caught.exception.label, "s")

    def test_too_many(self):
        heard = [("hear", (f"r{k}", "a", 0, (1, 1))) for k in range(31)]
        self.assertEqual(len(standing_readings(heard[:30])), 30)
        self.assertEqual(len(standing_readings(heard + [("back", "r7")])), 30)
        with self.assertRaises(TooMany) as caught:
            standing_readings(heard)
        self.assertEqual((caught.exception.what, caught.exception.limit), ("readings", 30))
        with self.assertRaises(TakenLabel):
            standing_readings(heard + [("hear", ("r1", "b", 0, (1, 1)))])
        backs = [("back", f"b{k}") for k in range(301)]
        self.assertEqual(len(merged(backs[:150], backs[100:300])), 300)
        self.assertEqual(len(merged(backs[:300], backs[:300])), 300)
        with self.assertRaises(TooMany) as caught:
            merged(backs[:200], backs[200:])
        self.assertEqual((caught.exception.what, caught.exception.limit), ("arrivals", 300))
        with self.assertRaises(TakenLabel):
            merged(backs[:200] + [("hear", R)], backs[200:] + [("hear", R2)])
        self.assertEqual(len(settled_arrivals(heard)), 31)


class States(unittest.TestCase):
    def test_states(self):
        log = [("hear", R), ("back", "s"), ("hear", T), ("back", "t"), ("back", "q"), ("hear", S)]
        self.assertEqual([state_in(log, label) for label in ["r", "s", "t", "q", "z"]],
                         ["stands", "gone", "gone", "ahead", "unknown"])
        self.assertEqual(state_in(arrivals=[], label="r"), "unknown")

    def test_standing(self):
        self.assertEqual(standing_readings(arrivals=[]), [])
        self.assertEqual(standing_readings([("hear", T), ("hear", R), ("hear", T)]), [R, T])
        # Who was taken back is gone for ever, heard again or not.
        self.assertEqual(standing_readings([("back", "r"), ("hear", R), ("hear", S), ("hear", R)]), [S])


class Settled(unittest.TestCase):
    def test_made(self):
        for made, _, (first, second, third) in made_lists(111, 250):
            before = repr((first, second, third))
            settled = settled_arrivals(arrivals=first)
            self.assertEqual(settled, settled_by_words(first))
            self.assertEqual(settled_arrivals(settled), settled)
            mixed_up = made.mixed_up(first + [made.one_of(first)] if first else first)
            self.assertEqual(settled_arrivals(mixed_up), settled)
            self.assertEqual(standing_readings(mixed_up), standing_readings(first))
            standing = [told for word, told in settled if word == "hear" and state_in(first, told[0]) == "stands"]
            self.assertEqual(standing_readings(first), standing)
            both = merged(arrivals=first, others=second)
            self.assertEqual(both, settled_arrivals(first + second))
            self.assertEqual(merged(second, first), both)
            self.assertEqual(merged(both, third), merged(first, merged(second, third)))
            self.assertEqual(merged(first, first), settled)
            lack = lacking(arrivals=first, others=second)
            self.assertEqual(lack, [arrival for arrival in settled if arrival not in second])
            self.assertEqual(merged(second, lack), both)
            self.assertIs(settled_arrivals(first) == settled_arrivals(second), set(first) == set(second))
            self.assertEqual(repr((first, second, third)), before)

    def test_all_sequences(self):
        log = [("hear", R), ("hear", S), ("back", "s"), ("back", "q"), ("hear", R)]
        told = {repr((settled_arrivals(list(some)), standing_readings(list(some)))) for some in itertools.permutations(log)}
        self.assertEqual(told, {repr(([("back", "q"), ("hear", R), ("hear", S), ("back", "s")], [R]))})

    def test_lacking_edges(self):
        self.assertEqual(lacking([], [("hear", R)]), [])
        self.assertEqual(lacking([("hear", R), ("hear", R), ("back", "r")], [("back", "r")]), [("hear", R)])
        # A taking back of others does not stand for the hearing, nor for that of another label.
        self.assertEqual(lacking([("back", "r"), ("back", "s")], [("hear", R), ("back", "s")]), [("back", "r")])


class Late(unittest.TestCase):
    def test_lateness(self):
        zero, one, two = [("hear", (f"m{k}", "a", k, (0, 1))) for k in range(3)]
        self.assertEqual(lateness(arrivals=[]), [])
        self.assertEqual(lateness([one, zero, two, zero, one, ("back", "m2"), two]), [0, 1, 0, 2, 1, 0, 0])
        # A reading that was taken back counts all the same.
        self.assertEqual(lateness([("back", "m2"), two, zero]), [0, 0, 2])
        self.assertEqual(lateness([("back", "m2"), zero]), [0, 0])
        self.assertEqual([greatest_heard(arrivals=some) for some in [[], [("back", "r")], [zero], [one, zero], [two, ("back", "m2")]]],
                         [None, None, 0, 1, 2])

    def test_made(self):
        for _, _, (log, _, _) in made_lists(112, 100):
            late = lateness(log)
            for at, (word, told) in enumerate(log):
                heard = [other[2] for kind, other in log[:at] if kind == "hear"]
                self.assertEqual(late[at], max(0, max(heard) - told[2]) if word == "hear" and heard else 0)
            heard = [told[2] for word, told in log if word == "hear"]
            self.assertEqual(greatest_heard(log), max(heard) if heard else None)


if __name__ == "__main__":
    unittest.main()
