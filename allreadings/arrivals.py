"""ARRIVALS: readings heard and labels taken back, in any sequence, late and doubled."""

from allreadings.errors import TakenLabel, TooMany
from allreadings.words import is_name
from allreadings.worlds import MOST_READINGS, is_reading

MOST_ARRIVALS = 300


def is_arrival(world, value):
    """Whether any value is an ARRIVAL of the world."""
    if not isinstance(value, tuple) or len(value) != 2:
        return False
    word, told = value
    return (word == "hear" and is_reading(world, told)) or (word == "back" and is_name(told))


def are_arrivals(world, value):
    """Whether any value is ARRIVALS of the world."""
    if not isinstance(value, list) or len(value) > MOST_ARRIVALS:
        return False
    return all(is_arrival(world, arrival) for arrival in value)


def first_taken(arrivals):
    """The place of the first hearing that is taken, None if none is."""
    heard = {}
    for place, (word, told) in enumerate(arrivals):
        if word == "hear" and heard.setdefault(told[0], told) != told:
            return place
    return None


def state_in(arrivals, label):
    """The label's state."""
    heard = any([word == "hear" and told[0] == label for word, told in arrivals])
    if ("back", label) in arrivals:
        return "gone" if heard else "ahead"
    return "stands" if heard else "unknown"


def standing_readings(arrivals):
    """The standing readings, sorted by label."""
    _check_taken(arrivals)
    heard = _heard(arrivals)
    gone = _gone(arrivals)
    standing = [heard[label] for label in sorted(heard) if label not in gone]
    if len(standing) > MOST_READINGS:
        raise TooMany("readings", MOST_READINGS)
    return standing


def settled_arrivals(arrivals):
    """For each label, in rising sequence, its hearing and its taking back."""
    _check_taken(arrivals)
    heard = _heard(arrivals)
    gone = _gone(arrivals)
    settled = []
    for label in sorted(set(list(heard) + list(gone))):
        if label in heard:
            settled.append(("hear", heard[label]))
        if label in gone:
            settled.append(("back", label))
    return settled


def merged(arrivals, others):
    """The first list followed by the other one, settled."""
    settled = settled_arrivals(arrivals + others)
    if len(settled) > MOST_ARRIVALS:
        raise TooMany("arrivals", MOST_ARRIVALS)
    return settled


def lacking(arrivals, others):
    """The settled arrivals that are not among the others."""
    _check_taken(arrivals + others)
    known = {arrival: True for arrival in others}
    return [arrival for arrival in settled_arrivals(arrivals) if arrival not in known]


def lateness(arrivals):
    """The list of the lateness of each arrival."""
    late = []
    greatest = 0
    for word, told in arrivals:
        late.append(max(0, greatest - told[2]) if word == "hear" else 0)
        if word == "hear":
            greatest = max(greatest, told[2])
    return late


def greatest_heard(arrivals):
    """The greatest moment of the readings heard, None if none was."""
    return max([told[2] for word, told in arrivals if word == "hear"], default=None)


def _check_taken(arrivals):
    place = first_taken(arrivals)
    if place is not None:
        raise TakenLabel(arrivals[place][1][0])


def _heard(arrivals):
    """The reading heard with each label."""
    return {told[0]: told for word, told in arrivals if word == "hear"}


def _gone(arrivals):
    """The labels that are taken back, as a dict of True."""
    return {told: True for word, told in arrivals if word == "back"}
