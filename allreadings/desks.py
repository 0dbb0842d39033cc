"""DESKS that share a world: what each of them heard goes from one to the other by LETTERS."""

from allreadings.arrivals import MOST_ARRIVALS, are_arrivals, is_arrival, settled_arrivals
from allreadings.basics import check_many, is_count
from allreadings.errors import InvalidLetter, UnknownDesk
from allreadings.keeping import Keeper
from allreadings.words import is_name

MOST_IN_LETTER = 40


def is_letter(world, value):
    """Whether any value is a LETTER."""
    if not isinstance(value, tuple) or len(value) != 5:
        return False
    sender, receiver, first, arrivals, had = value
    if not is_name(sender) or not is_name(receiver) or sender == receiver:
        return False
    if not is_count(first) or not is_count(had) or had > MOST_ARRIVALS:
        return False
    if not are_arrivals(world, arrivals) or len(arrivals) > MOST_IN_LETTER:
        return False
    return first + len(arrivals) <= MOST_ARRIVALS


def know_same(one, other):
    """Whether the rolls of two desks, settled, are equal."""
    return settled_arrivals(one.roll) == settled_arrivals(other.roll)


class Desk:
    """A name, fellows, and the roll as a keeper's log; for each fellow the counts HAD and ACKED."""

    def __init__(self, name, world, fellows):
        self._name = name
        self._fellows = list(fellows)
        self._keeper = Keeper(world)
        self._had = {fellow: 0 for fellow in fellows}
        self._acked = {fellow: 0 for fellow in fellows}

    @property
    def called(self):
        """The desk's name."""
        return self._name

    @property
    def world(self):
        """The world."""
        return self._keeper.world

    @property
    def fellows(self):
        """The names of the fellows."""
        return list(self._fellows)

    @property
    def roll(self):
        """The list of the arrivals that the desk knows."""
        return self._keeper.log

    @property
    def readings(self):
        """The standing readings."""
        return self._keeper.readings

    def hear(self, reading):
        """Hear a reading, as a keeper does; a known one is not logged again."""
        return self._take(("hear", reading))

    def take_back(self, label):
        """Take back a label, likewise."""
        return self._take(("back", label))

    def _take(self, arrival):
        # A value that only equals an arrival, as True equals 1, is left to the keeper to refuse.
        if is_arrival(self._keeper.world, arrival) and arrival in self.roll:
            return "known"
        return self._keeper.take(arrival)

    def letter(self, fellow, *, most=MOST_IN_LETTER):
        """The letter to a fellow."""
        check_many(most, 0, MOST_IN_LETTER)
        self._check_fellow(fellow)
        first = self._acked[fellow]
        return (self._name, fellow, first, self.roll[first:first + most], self._had[fellow])

    def _check_fellow(self, fellow):
        if fellow not in self._fellows:
            raise UnknownDesk(fellow)

    def take_letter(self, value):
        """Take any value that is a letter to this desk from a fellow; the list of the arrivals that were new."""
        if not is_letter(self._keeper.world, value) or value[1] != self._name or value[0] not in self._fellows:
            raise InvalidLetter(value)
        sender, _, first, arrivals, had = value
        new = self._new_ones(arrivals)
        self._keeper.take_all(new)
        if first <= self._had[sender]:
            self._had[sender] = max(self._had[sender], first + len(arrivals))
        if had <= len(self.roll):
            self._acked[sender] = max(self._acked[sender], had)
        return new

    def _new_ones(self, arrivals):
        """The arrivals that are not in the roll, each once."""
        known = {arrival: True for arrival in self.roll}
        new = []
        for arrival in arrivals:
            if arrival not in known:
                known[arrival] = True
                new.append(arrival)
        return new

    def had_from(self, fellow):
        """HAD of the fellow."""
        self._check_fellow(fellow)
        return self._had[fellow]

    def acked_by(self, fellow):
        """ACKED of the fellow."""
        self._check_fellow(fellow)
        return self._acked[fellow]

    def told_at(self, moment):
        """The set at the moment."""
        return self._keeper.told_at(moment)

    def paper_at(self, moment):
        """A set paper for it."""
        return self._keeper.paper_at(moment)


def exchange(one, other):
    """Letters to and fro until a turn of two changes neither desk; the number of letters."""
    letters = 0
    while True:
        ahead = _marks(one, other)
        other.take_letter(one.letter(other.called))
        one.take_letter(other.letter(one.called))
        letters += 2
        if _marks(one, other) == ahead:
            return letters


def _marks(one, other):
    """What grows when a letter changes a desk."""
    told = []
    for desk, fellow in ((one, other.called), (other, one.called)):
        told.append((len(desk.roll), desk.had_from(fellow), desk.acked_by(fellow)))
    return told
