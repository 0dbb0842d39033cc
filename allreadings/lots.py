"""Lots of names as integers with a bit for each name, and all lots gone through.

A lot is in another one if all of its bits are.
"""

from itertools import combinations


def names_among(lots):
    """The rising list of the names in the lots."""
    return sorted(set([name for lot in lots for name in lot]))


def bits_of(lot, names):
    """The lot of some of the names as an integer."""
    return sum([1 << names.index(name) for name in lot])


def lot_of_bits(bits, names):
    """The lot, in the sequence of the names."""
    return [name for k, name in enumerate(names) if bits >> k & 1]


def single_bits(bits):
    """The list of the bits that the integer has."""
    return [1 << k for k in range(bits.bit_length()) if bits >> k & 1]


def has_one_in(bits, others):
    """Whether one of the others is in this one."""
    return any(other & bits == other for other in others)


def is_rising(values):
    """Whether each of the values is more than the one ahead of it."""
    return all(values[k] < values[k + 1] for k in range(len(values) - 1))


def are_apart(lots):
    """Whether of some unlike lots, as integers, none is in another one."""
    return not any([one != other and one & other == one for one in lots for other in lots])


def least_and_greatest(labels, holds):
    """The list of the least lots of the labels that clash, and that of the greatest ones that hold.

    Lots with fewer labels come first. What has a lot in it that clashes, clashes; what is in one that holds, holds;
    holds tells of a lot whether it does.
    """
    clashing, holding = [], []
    for size in range(len(labels) + 1):
        for lot in combinations(labels, size):
            bits = bits_of(lot, labels)
            if has_one_in(bits, clashing) or any(bits & other == bits for other in holding):
                continue
            if holds(list(lot)):
                holding.append(_grown(bits, labels, holds))
            else:
                clashing.append(bits)
    return ([lot_of_bits(bits, labels) for bits in clashing], [lot_of_bits(bits, labels) for bits in holding])


def _grown(bits, labels, holds):
    """The lot, which holds, with each label put in with which it still holds."""
    grown = bits
    for k in range(len(labels)):
        if not grown >> k & 1 and holds(lot_of_bits(grown | 1 << k, labels)):
            grown = grown | 1 << k
    return grown
