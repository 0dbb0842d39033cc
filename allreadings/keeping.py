"""Keepers of a world: readings heard and taken back one by one, and the sets kept from one question to the next."""

from allreadings.arrivals import MOST_ARRIVALS, greatest_heard, is_arrival, lateness, standing_readings, state_in
from allreadings.backwards import behind_one, last_behind
from allreadings.errors import InvalidArrival, NothingToUndo, TooMany, UnknownLabel
from allreadings.everywhere import set_everywhere
from allreadings.forwards import next_set, seen_set
from allreadings.meets import meet
from allreadings.setpapers import set_paper
from allreadings.worlds import check_moment, copied_world


class Keeper:
    """A world and a log of arrivals; for each moment a before set and a behind set, None as long as none was made."""

    def __init__(self, world):
        self._world = copied_world(world)
        self._log = []
        self._standing = []
        self._befores = [None] * world[1]
        self._behinds = [None] * world[1]
        self._stale_befores = [True] * world[1]
        self._stale_behinds = [True] * world[1]
        self._made_befores = 0
        self._made_behinds = 0

    @property
    def world(self):
        """The world."""
        return copied_world(self._world)

    @property
    def log(self):
        """The list of the arrivals that were taken."""
        return list(self._log)

    @property
    def readings(self):
        """The standing readings."""
        return list(self._standing)

    def take(self, arrival):
        """Take an arrival; what is told of it: "known", "new", "gone" or "ahead"."""
        if not is_arrival(self._world, arrival):
            raise InvalidArrival(arrival)
        log = self._log + [arrival]
        standing = standing_readings(log)
        if len(log) > MOST_ARRIVALS:
            raise TooMany("arrivals", MOST_ARRIVALS)
        answer = self._answer(arrival)
        self._go_on(log, standing)
        return answer

    def _answer(self, arrival):
        word, told = arrival
        if arrival in self._log:
            return "known"
        if word == "hear":
            return "gone" if state_in(self._log, told[0]) == "ahead" else "new"
        return "gone" if state_in(self._log, told) == "stands" else "ahead"

    def _go_on(self, log, standing):
        """Let the log be this one, and the sets stale at the moments where readings begin or cease to stand."""
        for reading in self._standing:
            if reading not in standing:
                self._make_stale(reading[2])
        for reading in standing:
            if reading not in self._standing:
                self._make_stale(reading[2])
        self._log = log
        self._standing = standing

    def _make_stale(self, moment):
        self._stale_befores[moment] = True
        self._stale_behinds[moment] = True

    def hear(self, reading):
        """Take the hearing of any value."""
        return self.take(("hear", reading))

    def take_back(self, label):
        """Take the taking back of any value."""
        return self.take(("back", label))

    def take_all(self, arrivals):
        """Take all arrivals of the list, or none of them; the list of what is told of each."""
        other = self.twin()
        answers = [other.take(arrival) for arrival in arrivals]
        for arrival in arrivals:
            self.take(arrival)
        return answers

    def undo(self):
        """Undo the last arrival of the log, and tell it."""
        if not self._log:
            raise NothingToUndo()
        arrival = self._log[-1]
        log = self._log[:-1]
        self._go_on(log, standing_readings(log))
        return arrival

    def state_of(self, label):
        """The label's state in the log."""
        return state_in(self._log, label)

    def reading_of(self, label):
        """The reading heard with the label, whether it stands or not."""
        for word, told in self._log:
            if word == "hear" and told[0] == label:
                return told
        raise UnknownLabel(label)

    def before_at(self, moment):
        """The before set at the moment."""
        check_moment(self._world, moment)
        self._make_befores(moment)
        return _copied_shape(self._befores[moment])

    def _make_befores(self, moment):
        """Make the stale before sets up to the moment, from the first one on."""
        for at in range(moment + 1):
            if self._stale_befores[at]:
                made = self._before_made(at)
                self._made_befores += 1
                self._stale_befores[at] = False
                if made != self._befores[at] and at + 1 < self._world[1]:
                    self._stale_befores[at + 1] = True
                self._befores[at] = made

    def _before_made(self, moment):
        if moment == 0:
            return seen_set(self._world, self._standing, 0)
        return next_set(self._world, self._standing, moment, self._befores[moment - 1])

    def behind_at(self, moment):
        """The behind set at the moment."""
        check_moment(self._world, moment)
        self._make_behinds(moment)
        return _copied_shape(self._behinds[moment])

    def _make_behinds(self, moment):
        """Make the stale behind sets down to the moment, from the last one on."""
        for at in reversed(range(moment, self._world[1])):
            if self._stale_behinds[at]:
                made = self._behind_made(at)
                self._made_behinds += 1
                self._stale_behinds[at] = False
                if made != self._behinds[at] and at > 0:
                    self._stale_behinds[at - 1] = True
                self._behinds[at] = made

    def _behind_made(self, moment):
        if moment == self._world[1] - 1:
            return last_behind(self._world, self._standing)
        return behind_one(self._world, self._standing, moment, self._behinds[moment + 1])

    def told_at(self, moment):
        """The told set at the moment."""
        return meet(self.before_at(moment), self.behind_at(moment))

    def all_told(self):
        """The list of the told sets at all moments."""
        return [self.told_at(moment) for moment in range(self._world[1])]

    def is_clashing(self):
        """Whether the told set at moment 0, and so each, is empty."""
        return self.told_at(0)[0] == "empty"

    def paper_at(self, moment):
        """A set paper of the moment, for the told set."""
        return set_paper(self._world, self._standing, moment)

    def made(self):
        """The counts of the before sets and the behind sets made."""
        return (self._made_befores, self._made_behinds)

    def late(self):
        """The lateness of the log's arrivals."""
        return lateness(self._log)

    def firm(self, most):
        """The number of the firm moments, if arrivals are at most so late."""
        greatest = greatest_heard(self._log)
        return 0 if greatest is None else max(0, greatest - most)

    def moved_by(self, arrival):
        """The rising list of the moments that the arrival would move."""
        other = self.twin()
        other.take(arrival)
        now, then = self.twin().all_told(), other.all_told()
        return [moment for moment in range(len(now)) if now[moment] != then[moment]]

    def twin(self):
        """A keeper in the same state that goes on by itself; the shapes kept are never changed, so they are shared."""
        other = Keeper(self._world)
        other._log = list(self._log)
        other._standing = list(self._standing)
        other._befores = list(self._befores)
        other._behinds = list(self._behinds)
        other._stale_befores = list(self._stale_befores)
        other._stale_behinds = list(self._stale_behinds)
        other._made_befores = self._made_befores
        other._made_behinds = self._made_behinds
        return other


def _copied_shape(shape):
    """An equal shape of new lists."""
    if shape[0] == "empty":
        return shape
    word, many, rows, corners, directions = shape
    return (word, many, list(rows), [list(corner) for corner in corners], list(directions))


def keeper_of(world, arrivals):
    """A keeper that took these arrivals."""
    keeper = Keeper(world)
    keeper.take_all(arrivals)
    return keeper


def told_from_nothing(world, arrivals, moment):
    """The set at the moment of the world and the standing readings, with nothing kept."""
    readings = standing_readings(arrivals)
    check_moment(world, moment)
    return set_everywhere(world, readings, moment)
