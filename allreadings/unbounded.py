"""Unknowns taken out one by one, with no bound on rows."""

from allreadings.needless import needless
from allreadings.pairing import rows_without
from allreadings.rowsof import tidied


def left_of(system, going):
    """The system with the unknowns at the places going taken out, in this sequence; needless rows are left out."""
    left = _lean(tidied(system))
    held = list(range(system[0]))
    for place in going:
        at = held.index(place)
        left = _lean(tidied((left[0] - 1, rows_without(left, at)[0])))
        held.remove(place)
    return left


def _lean(system):
    many, rows = system
    out = needless(system)
    return (many, [row for place, row in enumerate(rows) if place not in out])
