"""Unknowns taken out one by one, with no bound on rows."""

from allreadings.needless import needless
from allreadings.pairing import rows_without
from allreadings.rowsof import tidied


def left_of(system, going):
    """The system with the unknowns at the places going taken out, in this sequence; needless rows are left out."""
    left = _lean(tidied(system))
    held = list(range(system[0]))
    for place in going:
        at = held.index(place)
        left = _lean(tidied((left[0] - 1, rows_without(left, at)[0])))
        held.remove(place)
    return left


def left_with(system, kept):
    """The same with all unknowns but those at the places kept taken out, each time one that pairs the fewest rows."""
    left = _lean(tidied(system))
    held = list(range(system[0]))
    for _ in range(system[0] - len(kept)):
        _, at = min([(_pairs_at(left, k), k) for k, place in enumerate(held) if place not in kept])
        left = _lean(tidied((left[0] - 1, rows_without(left, at)[0])))
        del held[at]
    return left


def _pairs_at(system, place):
    """How many more rows there are when the unknown at the place is taken out, before these are made tidy."""
    uppers = len([row for row in system[1] if row[0][place] > 0])
    lowers = len([row for row in system[1] if row[0][place] < 0])
    return uppers * lowers - uppers - lowers


def _lean(system):
    many, rows = system
    out = needless(system)
    return (many, [row for place, row in enumerate(rows) if place not in out])
