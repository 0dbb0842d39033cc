"""PARTS of fractions, and the simplest fraction between two."""

from allreadings.errors import CrossedBounds, NothingGiven, TooMany
from allreadings.fractions import ONE, ceiling_of, compare, floor_of, fraction, minus, opposite, over, whole

MOST_BELOWS = 2000


def parts_of(a):
    """The parts: the floor, then the parts of 1 divided by what is more."""
    above, below = a
    parts = []
    while below:
        part = above // below
        parts.append(part)
        above, below = below, above - part * below
    return parts


def of_parts(parts):
    """The fraction that a list of parts stands for."""
    if not parts:
        raise NothingGiven()
    above, below = parts[-1], 1
    for part in reversed(parts[:-1]):
        above, below = part * above + below, above
    return fraction(above, below)


def worth_key(a):
    """A list by which Python sorts fractions as their worths are: of the parts, every other one turned round.

    An end stands for a part greater than any; the first number of each pair tells ends from parts.
    """
    key = []
    side = 1
    for part in parts_of(a):
        key.append((0, side * part))
        side = -side
    key.append((side, 0))
    return key


def compare_by_parts(a, b):
    """As compare, by the first unlike parts."""
    key, other = worth_key(a), worth_key(b)
    if key == other:
        return 0
    return -1 if key < other else 1


def simplest(low, high):
    """The simplest fraction from low to high, by their floors."""
    if compare(low, high) > 0:
        raise CrossedBounds()
    if high[0] < 0:
        return opposite(_simplest_above(opposite(high), opposite(low)))
    if low[0] <= 0:
        return whole(0)
    return _simplest_above(low, high)


def _simplest_above(low, high):
    """The simplest one, low above nought: part by part, as calls in calls could go too deep."""
    parts = []
    while compare(whole(ceiling_of(low)), high) > 0:
        part = floor_of(low)
        parts.append(part)
        low, high = over(ONE, minus(high, whole(part))), over(ONE, minus(low, whole(part)))
    return of_parts(parts + [ceiling_of(low)])


def simplest_plain(low, high):
    """The simplest fraction from low to high, below after below."""
    if compare(low, high) > 0:
        raise CrossedBounds()
    for below in range(1, MOST_BELOWS + 1):
        first = -(-low[0] * below // low[1])
        last = high[0] * below // high[1]
        if first <= last:
            return fraction(_nearest_nought(first, last), below)
    raise TooMany("belows", MOST_BELOWS)


def _nearest_nought(first, last):
    if first > 0:
        return first
    return last if last < 0 else 0
