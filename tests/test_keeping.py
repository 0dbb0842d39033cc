"""Keepers: what they tell is as from nothing; what is stale, made and counted; undone, twins, what would move."""

import unittest

from allreadings import keeping
from allreadings.arrivals import lateness, settled_arrivals, standing_readings, state_in
from allreadings.backwards import behind_set
from allreadings.errors import InvalidArrival, MissingMoment, NothingToUndo, TakenLabel, TooMany, UnknownLabel
from allreadings.everywhere import set_everywhere, sets_everywhere
from allreadings.forwards import before_set, before_sets
from allreadings.keeping import Keeper, keeper_of, told_from_nothing
from allreadings.meets import is_within
from allreadings.setpapers import is_set_paper
from tests.made import EDGES, STRANGE, MadeWorlds
from tests.test_courses import MISSING

WORLD = (1, 3, [((-1,), 0)], [[((-1, 1), 2), ((1, -1), 0)]] * 2, [("a", (1,), (1, 1)), ("b", (2,), (0, 1))])
R, S, T = ("r", "a", 1, (5, 1)), ("s", "a", 0, (4, 1)), ("t", "b", 2, (12, 1))
R2 = ("r", "a", 1, (6, 1))


class Model:
    """What a keeper has to count, told once more by words, with each set from nothing."""

    def __init__(self, world):
        self.world, self.standing = world, []
        self.kept = {side: [None] * world[1] for side in ("before", "behind")}
        self.stale = {side: [True] * world[1] for side in ("before", "behind")}
        self.counts = {"before": 0, "behind": 0}

    def log(self, log):
        standing = standing_readings(log)
        for reading in self.standing + standing:
            if (reading in standing) != (reading in self.standing):
                self.stale["before"][reading[2]] = self.stale["behind"][reading[2]] = True
        self.standing = standing

    def ask(self, side, moment):
        last = self.world[1] - 1
        way = range(moment + 1) if side == "before" else range(last, moment - 1, -1)
        function, ahead = (before_set, 1) if side == "before" else (behind_set, -1)
        for at in way:
            if self.stale[side][at]:
                shape = function(self.world, self.standing, at)
                self.counts[side] += 1
                self.stale[side][at] = False
                if shape != self.kept[side][at] and 0 <= at + ahead <= last:
                    self.stale[side][at + ahead] = True
                self.kept[side][at] = shape
        return self.kept[side][moment]

    def made(self):
        return (self.counts["before"], self.counts["behind"])


def state_of_keeper(keeper):
    """All that a keeper shows without making anything."""
    labels = ["r", "s", "t", "q"]
    return (keeper.world, keeper.log, keeper.readings, keeper.made(), keeper.late(), keeper.firm(0),
            [keeper.state_of(label) for label in labels])


class Taking(unittest.TestCase):
    def test_answers(self):
        keeper = Keeper(WORLD)
        arrivals = [("hear", R), ("hear", R), ("back", "r"), ("back", "r"), ("hear", R), ("back", "s"), ("hear", S),
                    ("hear", S), ("back", "q"), ("hear", T)]
        answers = ["new", "known", "gone", "known", "known", "ahead", "gone", "known", "ahead", "new"]
        self.assertEqual([keeper.take(arrival=arrival) for arrival in arrivals], answers)
        self.assertEqual((keeper.log, keeper.readings), (arrivals, [T]))
        self.assertEqual([keeper.state_of(label) for label in ["r", "s", "t", "q", "z"]],
                         ["gone", "gone", "stands", "ahead", "unknown"])
        self.assertEqual([keeper.reading_of(label) for label in ["r", "s", "t"]], [R, S, T])
        for label in ["q", "z"]:
            with self.assertRaises(UnknownLabel) as caught:
                keeper.reading_of(label)
            self.assertEqual(caught.exception.label, label)
        self.assertEqual(Keeper(WORLD).take_all(arrivals), answers)
        other = Keeper(WORLD)
        self.assertEqual([other.hear(T), other.take_back("t"), other.take_back("s"), other.hear(S), other.hear(reading=T)],
                         ["new", "gone", "ahead", "gone", "known"])
        self.assertEqual(other.log, [("hear", T), ("back", "t"), ("back", "s"), ("hear", S), ("hear", T)])

    def check_refused(self, keeper, call, error, **attributes):
        before = state_of_keeper(keeper)
        with self.assertRaises(error) as caught:
            call()
        self.assertEqual(vars(caught.exception), attributes)
        self.assertEqual(state_of_keeper(keeper), before)

    def test_wrong_arrivals(self):
        keeper = keeper_of(WORLD, [("hear", R), ("back", "q")])
        for value in STRANGE + [("hear", ("r", "c", 1, (5, 1))), ("hear", ("x", "a", 3, (5, 1))), ("back", "A"), ["back", "r"]]:
            self.check_refused(keeper, lambda: keeper.take(value), InvalidArrival, value=value)
            self.check_refused(keeper, lambda: keeper.moved_by(value), InvalidArrival, value=value)
            self.check_refused(keeper, lambda: keeper.hear(value), InvalidArrival, value=("hear", value))
            if value not in ("a", "point", "worth", "shape", "empty", "none"):
                self.check_refused(keeper, lambda: keeper.take_back(value), InvalidArrival, value=("back", value))
            self.check_refused(keeper, lambda: keeper.take_all([("hear", T), value]), InvalidArrival, value=value)

    def test_taken_labels(self):
        keeper = keeper_of(WORLD, [("hear", R), ("back", "s"), ("hear", S)])
        for reading in [R2, ("r", "b", 1, (5, 1)), ("r", "a", 2, (5, 1)), ("s", "a", 0, (5, 1))]:
            for call in [lambda: keeper.hear(reading), lambda: keeper.take(("hear", reading)),
                         lambda: keeper.moved_by(("hear", reading)),
                         lambda: keeper.take_all([("hear", T), ("back", "r"), ("hear", reading)])]:
                self.check_refused(keeper, call, TakenLabel, label=reading[0])
        self.check_refused(keeper, lambda: keeper_of(WORLD, [("hear", R), ("hear", R2)]), TakenLabel, label="r")

    def test_bounds(self):
        heard = [("hear", (f"r{k}", "a", k % 3, (5, 1))) for k in range(31)]
        keeper = keeper_of(world=WORLD, arrivals=heard[:30])
        for call in [lambda: keeper.take(heard[30]), lambda: keeper.moved_by(heard[30]),
                     lambda: keeper.take_all([("back", "z"), heard[30]]), lambda: keeper_of(WORLD, heard)]:
            self.check_refused(keeper, call, TooMany, what="readings", limit=30)
        self.check_refused(keeper, lambda: keeper.hear(("r3", "b", 1, (0, 1))), TakenLabel, label="r3")
        self.assertEqual(keeper.take_all([("back", "r7"), heard[30]]), ["gone", "new"])
        self.assertEqual(len(keeper.readings), 30)
        self.assertEqual(keeper.take_all([("back", "z")] * 268)[0], "ahead")
        self.assertEqual(len(keeper.log), 300)
        for arrival in [("back", "z"), heard[0], ("back", "r1")]:
            self.check_refused(keeper, lambda: keeper.take(arrival), TooMany, what="arrivals", limit=300)
        self.check_refused(keeper, lambda: keeper.take(("hear", ("q", "a", 0, (5, 1)))), TooMany, what="readings", limit=30)
        self.check_refused(keeper, lambda: keeper.take_all([("back", "z")]), TooMany, what="arrivals", limit=300)
        keeper.undo()
        self.assertEqual(keeper.take(("back", "r1")), "gone")

    def test_known_ones_at_the_bound_of_readings(self):
        heard = [("hear", (f"r{k}", "a", k % 3, (5, 1))) for k in range(30)]
        keeper = keeper_of(WORLD, heard)
        self.assertEqual([keeper.take(heard[4]), keeper.take(("back", "new"))], ["known", "ahead"])
        self.assertEqual(keeper.hear(("new", "a", 0, (5, 1))), "gone")

    def test_take_all_of_nothing(self):
        keeper = Keeper(world=WORLD)
        self.assertEqual(keeper.take_all(arrivals=[]), [])
        self.assertEqual(keeper.log, [])


class Undoing(unittest.TestCase):
    def test_to_the_empty_log_and_once_more(self):
        arrivals = [("hear", R), ("back", "s"), ("hear", R), ("hear", S), ("back", "r")]
        keeper = keeper_of(WORLD, arrivals)
        told = []
        for count in range(len(arrivals), 0, -1):
            self.assertEqual(keeper.log, arrivals[:count])
            self.assertEqual(keeper.readings, standing_readings(arrivals[:count]))
            self.assertEqual(keeper.all_told(), sets_everywhere(WORLD, standing_readings(arrivals[:count])))
            told.append(keeper.undo())
        self.assertEqual(told, arrivals[::-1])
        self.assertEqual((keeper.log, keeper.readings), ([], []))
        for _ in range(2):
            with self.assertRaises(NothingToUndo):
                keeper.undo()
        self.assertEqual(keeper.take_all(arrivals), ["new", "ahead", "known", "gone", "gone"])


class Kept(unittest.TestCase):
    def test_counts(self):
        keeper = Keeper(WORLD)
        self.assertEqual(keeper.made(), (0, 0))
        keeper.before_at(1)
        self.assertEqual(keeper.made(), (2, 0))
        keeper.before_at(moment=1)
        keeper.behind_at(moment=1)
        self.assertEqual(keeper.made(), (2, 2))
        keeper.told_at(moment=2)
        self.assertEqual(keeper.made(), (3, 2))
        keeper.hear(T)
        keeper.told_at(0)
        # Moment 2 is stale, and the sets in front become so as each one that is made is another one.
        self.assertEqual(keeper.made(), (3, 5))
        keeper.told_at(2)
        self.assertEqual(keeper.made(), (4, 5))
        keeper.undo()
        self.assertEqual(keeper.made(), (4, 5))
        keeper.hear(("u", "b", 2, (12, 1)))
        # The same row from another label: both sets of its moment are made anew, but they stay what they were.
        keeper.all_told()
        self.assertEqual(keeper.made(), (5, 6))
        keeper.take_back("nothing")
        keeper.hear(("u", "b", 2, (12, 1)))
        keeper.all_told()
        keeper.is_clashing()
        self.assertEqual(keeper.made(), (5, 6))

    def test_nothing_else_makes_sets(self):
        keeper = keeper_of(WORLD, [("hear", R), ("hear", S)])
        for call in [lambda: keeper.paper_at(1), lambda: keeper.moved_by(("hear", T)), lambda: keeper.late(),
                     lambda: keeper.firm(1), lambda: keeper.twin().all_told(), lambda: keeper.state_of("r"),
                     lambda: keeper.readings, lambda: keeper.world, lambda: keeper.log, lambda: keeper.reading_of("r")]:
            call()
            self.assertEqual(keeper.made(), (0, 0))
        self.assertIs(keeper.is_clashing(), False)
        self.assertEqual(keeper.made(), (1, 3))
        keeper.moved_by(("back", "r"))
        self.assertEqual(keeper.made(), (1, 3))

    def test_missing_moments(self):
        keeper = keeper_of(WORLD, [("hear", R)])
        for value in MISSING + [3]:
            for call in [keeper.before_at, keeper.behind_at, keeper.told_at, keeper.paper_at]:
                with self.assertRaises(MissingMoment) as caught:
                    call(value)
                self.assertIs(caught.exception.moment, value)
        self.assertEqual(keeper.made(), (0, 0))

    def test_what_was_made_ahead_of_an_error_stays_made(self):
        keeper = Keeper(WORLD)
        asked, next_set, behind_one = [], keeping.next_set, keeping.behind_one

        def failing(world, readings, moment, shape):
            asked.append(moment)
            if moment in broken:
                raise TooMany("rows", 200)
            return (next_set if moment in (1, 2) and side == "before" else behind_one)(world, readings, moment, shape)

        keeping.next_set = keeping.behind_one = failing
        try:
            side, broken = "before", [2]
            for _ in range(2):
                with self.assertRaises(TooMany):
                    keeper.told_at(2)
                self.assertEqual(keeper.made(), (2, 0))
            self.assertEqual(asked, [1, 2, 2])
            broken = []
            keeper.before_at(2)
            self.assertEqual(keeper.made(), (3, 0))
            side, broken = "behind", [0]
            with self.assertRaises(TooMany):
                keeper.told_at(0)
            self.assertEqual(keeper.made(), (3, 2))
        finally:
            keeping.next_set, keeping.behind_one = next_set, behind_one
        self.assertEqual(keeper.all_told(), sets_everywhere(WORLD, []))
        self.assertEqual(keeper.made(), (3, 3))

    def test_made(self):
        made = MadeWorlds(121)
        firsts = list(EDGES.values())
        undone = 0
        for turn in range(90):
            if turn < len(firsts):
                world, readings = firsts[turn]
            else:
                world = made.world(moments=made.number(1, 5))
                readings = made.readings(world, made.number(1, 5))
            before = repr(world)
            keeper, model, log = Keeper(world), Model(world), []
            for _ in range(14):
                kind = made.number(0, 9)
                moment = made.number(0, world[1] - 1)
                if kind <= 3 and readings:
                    reading = made.one_of(readings)
                    arrival = ("back", reading[0]) if made.number(0, 3) == 0 else ("hear", reading)
                    self.assertEqual(keeper.moved_by(arrival=arrival), [
                        at for at in range(world[1]) if set_everywhere(world, standing_readings(log), at)
                        != set_everywhere(world, standing_readings(log + [arrival]), at)])
                    keeper.take(arrival)
                    log.append(arrival)
                elif kind == 4 and log:
                    self.assertEqual(keeper.undo(), log.pop())
                    undone += 1
                model.log(log)
                if kind == 5:
                    self.assertEqual(keeper.before_at(moment), model.ask("before", moment))
                elif kind == 6:
                    self.assertEqual(keeper.behind_at(moment), model.ask("behind", moment))
                elif kind == 7:
                    shape = keeper.told_at(moment)
                    model.ask("before", moment)
                    model.ask("behind", moment)
                    self.assertEqual(shape, told_from_nothing(world=world, arrivals=log, moment=moment))
                    self.assertTrue(is_set_paper(world, keeper.readings, moment, shape, keeper.paper_at(moment=moment)))
                elif kind == 8:
                    self.assertEqual(keeper.all_told(), sets_everywhere(world, standing_readings(log)))
                    for at in range(world[1]):
                        model.ask("before", at)
                        model.ask("behind", at)
                elif kind == 9:
                    clashing = keeper.is_clashing()
                    model.ask("before", 0)
                    model.ask("behind", 0)
                    self.assertIs(clashing, set_everywhere(world, standing_readings(log), 0)[0] == "empty")
                self.assertEqual(keeper.made(), model.made())
                self.assertEqual((keeper.log, keeper.readings), (log, standing_readings(log)))
                self.assertEqual((keeper.world, keeper.late()), (world, lateness(log)))
            self.assertEqual(repr(world), before)
        self.assertGreater(undone, 40)

    def test_any_sequence(self):
        made = MadeWorlds(122)
        for _ in range(60):
            world = made.world()
            log = made.arrivals(world, made.number(1, 4))
            first = keeper_of(world, log)
            mixed_up = made.mixed_up(log + [made.one_of(log)])
            other = Keeper(world)
            for arrival in mixed_up:
                other.take(arrival)
                if made.number(0, 2) == 0:
                    other.told_at(made.number(0, world[1] - 1))
            self.assertEqual(other.all_told(), first.all_told())
            self.assertEqual(other.readings, first.readings)
            self.assertEqual(settled_arrivals(other.log), settled_arrivals(first.log))
            self.assertEqual(first.all_told(), [told_from_nothing(world, log, moment) for moment in range(world[1])])
            # A hearing makes each set smaller or leaves it, a taking back greater or leaves it.
            told = first.all_told()
            reading = ("zz",) + made.readings(world, 1)[0][1:]
            for arrival in [("hear", reading), ("back", log[0][1] if log[0][0] == "back" else log[0][1][0])]:
                moved = first.moved_by(arrival)
                twin = first.twin()
                twin.take(arrival)
                after = twin.all_told()
                self.assertEqual(moved, [k for k in range(world[1]) if after[k] != told[k]])
                pairs = zip(after, told) if arrival[0] == "hear" else zip(told, after)
                self.assertTrue(all(is_within(one, two) for one, two in pairs))
            self.assertEqual(first.all_told(), told)


class Firm(unittest.TestCase):
    def test_firm(self):
        keeper = Keeper(WORLD)
        self.assertEqual([keeper.firm(most=0), keeper.firm(10 ** 30 - 1)], [0, 0])
        keeper.take_back("t")
        self.assertEqual(keeper.firm(0), 0)
        keeper.hear(R)
        self.assertEqual([keeper.firm(most) for most in (0, 1, 2, 10 ** 30 - 1)], [1, 0, 0, 0])
        keeper.hear(T)
        self.assertEqual([keeper.firm(most) for most in (0, 1, 2, 3)], [2, 1, 0, 0])

    def test_before_sets_at_firm_moments_stay(self):
        made = MadeWorlds(123)
        looked = 0
        for _ in range(80):
            world = made.world(moments=made.number(2, 5))
            keeper = keeper_of(world, [("hear", reading) for reading in made.readings(world, 3)])
            most = made.number(0, 2)
            firm = keeper.firm(most)
            shapes = [keeper.before_at(moment) for moment in range(firm)]
            for reading in made.readings(world, 6):
                late = ("n" + reading[0],) + reading[1:]
                if lateness(keeper.log + [("hear", late)])[-1] <= most:
                    looked += firm > 0
                    keeper.hear(late)
            keeper.take(keeper.log[0])
            self.assertEqual([keeper.before_at(moment) for moment in range(firm)], shapes)
            self.assertGreaterEqual(keeper.firm(most), firm)
        self.assertGreater(looked, 40)


class Apart(unittest.TestCase):
    def test_twins(self):
        keeper = keeper_of(WORLD, [("hear", R), ("hear", S)])
        keeper.told_at(1)
        keeper.hear(T)
        twin = keeper.twin()
        self.assertIsInstance(twin, Keeper)
        self.assertEqual(state_of_keeper(twin), state_of_keeper(keeper))
        told = keeper.made()
        self.assertEqual(twin.all_told(), sets_everywhere(WORLD, [R, S, T]))
        after = twin.made()
        self.assertEqual(keeper.made(), told)
        self.assertEqual(keeper.all_told(), twin.all_told())
        self.assertEqual(keeper.made(), after)
        twin.take_back("r")
        keeper.undo()
        self.assertEqual((len(keeper.log), len(twin.log)), (2, 4))
        self.assertEqual((keeper.readings, twin.readings), ([R, S], [S, T]))
        self.assertEqual(keeper.state_of("r"), "stands")

    def test_lists_are_its_own(self):
        world = (1, 2, [((-1,), 0)], [[((1, -1), 0)]], [("a", (1,), (1, 1))])
        arrivals = [("hear", ("r", "a", 0, (1, 1)))]
        keeper = keeper_of(world, arrivals)
        before = (repr(keeper.world), repr(keeper.log), repr(keeper.readings), repr(keeper.all_told()))
        world[2].append(((0,), -1))
        world[3][0].clear()
        world[4].clear()
        arrivals.clear()
        for told in [keeper.world[2], keeper.world[3][0], keeper.world[3], keeper.world[4], keeper.log, keeper.readings,
                     keeper.all_told()]:
            told.clear()
        for shape in [keeper.before_at(0), keeper.behind_at(0), keeper.told_at(0), keeper.before_at(1)]:
            for part in shape[2:]:
                for inner in part:
                    if isinstance(inner, list):
                        inner.append(None)
                part.append(None)
        self.assertEqual((repr(keeper.world), repr(keeper.log), repr(keeper.readings), repr(keeper.all_told())), before)
        self.assertEqual(before_sets(keeper.world, keeper.readings), [keeper.before_at(0), keeper.before_at(1)])

    def test_from_nothing(self):
        log = [("hear", R), ("back", "s"), ("hear", S)]
        self.assertEqual(told_from_nothing(WORLD, log, 1), set_everywhere(WORLD, [R], 1))
        self.assertEqual(state_in(log, "s"), "gone")
        for value in MISSING + [3]:
            with self.assertRaises(MissingMoment):
                told_from_nothing(WORLD, log, value)
            with self.assertRaises(TakenLabel):
                told_from_nothing(WORLD, log + [("hear", R2)], value)
            with self.assertRaises(TooMany) as caught:
                told_from_nothing(WORLD, [("hear", (f"r{k}", "a", 0, (1, 1))) for k in range(31)], value)
            self.assertEqual((caught.exception.what, caught.exception.limit), ("readings", 30))


if __name__ == "__main__":
    unittest.main()
