"""FAMILIES of lots of names, and the least lots that have a name in common with each of a family's lots."""

from itertools import combinations

from allreadings.lots import bits_of, has_one_in, lot_of_bits, names_among, single_bits
from allreadings.words import is_name

MOST_LOTS = 300
MOST_NAMES = 10


def is_family(value):
    """Whether any value is a FAMILY."""
    if not isinstance(value, list) or len(value) > MOST_LOTS:
        return False
    if not all(_is_lot_of_names(lot) for lot in value):
        return False
    return len(names_among(value)) <= MOST_NAMES


def _is_lot_of_names(value):
    """Whether any value is a rising list of unlike NAMES."""
    if not isinstance(value, list) or not all(is_name(name) for name in value):
        return False
    return value == sorted(set(value))


def hits(lot, family):
    """Whether the lot has a name in common with each of the family's lots."""
    return all(any([name in other for name in lot]) for other in family)


def first_lot(labels, within, missed):
    """Of the lots with the fewest labels that miss nothing and have these within them, the first one.

    missed tells None of a lot that misses nothing, otherwise labels of which each such lot has one; the lot of all
    labels misses nothing.
    """
    others = [label for label in labels if label not in within]
    needed = []
    for size in range(len(others)):
        for lot in sorted([sorted(within + list(more)) for more in combinations(others, size)]):
            if hits(lot, needed):
                told = missed(lot)
                if told is None:
                    return lot
                needed.append(told)
    return list(labels)


def thinned_family(family):
    """The family's lots, rising, each once, without those that have another one in them."""
    names = names_among(family)
    found = []
    # A lot that is in another one has fewer names, so it comes ahead of it.
    for lot in sorted(family, key=len):
        bits = bits_of(lot, names)
        if not has_one_in(bits, found):
            found.append(bits)
    return _listed(found, names)


def _listed(found, names):
    """The rising list of lots that are told as integers."""
    return sorted([lot_of_bits(bits, names) for bits in found])


def least_hitting_plain(family):
    """All least hitting lots, by trying all lots of the family's names, those with fewer names first."""
    names = names_among(family)
    found = []
    for size in range(len(names) + 1):
        for lot in combinations(names, size):
            bits = bits_of(lot, names)
            if not has_one_in(bits, found) and hits(lot, family):
                found.append(bits)
    return _listed(found, names)


def least_hitting(family):
    """All least hitting lots, lot by lot."""
    names = names_among(family)
    found = [0]
    for lot in family:
        found = hitting_too(found, bits_of(lot, names))
    return _listed(found, names)


def hitting_too(found, lot):
    """The least hitting lots of some lots and of one more, of those of the former; all as integers.

    One that is replaced has no name in common with the lot, so those that replace it are not in one another.
    """
    kept = [bits for bits in found if bits & lot]
    grown = [bits | name for bits in found if not bits & lot for name in single_bits(lot)]
    return kept + [bits for bits in grown if not has_one_in(bits, kept)]
