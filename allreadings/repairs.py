"""REPAIRS: lots of readings that, left out, leave a course; all least lots and least repairs at once, with papers."""

from allreadings.allrows import all_rows
from allreadings.clashes import is_clash
from allreadings.conflicts import MOST_IN_CONFLICT, check_conflict, labels_of, lot_by_papers, lot_holds, other_lot
from allreadings.conflicts import readings_of
from allreadings.courses import clash_of_all, course_of, is_allowed
from allreadings.hitting import hitting_too
from allreadings.lots import are_apart, bits_of, has_one_in, is_rising, lot_of_bits


def is_repair(world, readings, lot):
    """Whether the lot, left out, leaves a course."""
    return lot_holds(world, readings, other_lot(readings, lot))


def lots_and_repairs(world, readings):
    """The list of all least lots and that of all least repairs."""
    check_conflict(readings)
    labels = labels_of(readings)
    lots, noted = [], {}
    hitting = [0]
    left = list(hitting)
    while left:
        lot = lot_of_bits(left[0], labels)
        least = lot_by_papers(world, readings, other_lot(readings, lot))
        if least is None:
            noted[left[0]] = True
        else:
            lots.append(least)
            hitting = hitting_too(hitting, bits_of(least, labels))
        left = [bits for bits in hitting if bits not in noted]
    return (sorted(lots), sorted([lot_of_bits(bits, labels) for bits in noted]))


def fewest_repairs(world, readings):
    """The least repairs with the fewest labels."""
    repairs = lots_and_repairs(world, readings)[1]
    fewest = min([len(lot) for lot in repairs], default=0)
    return [lot for lot in repairs if len(lot) == fewest]


def conflict_paper(world, readings):
    """A CONFLICT PAPER."""
    lots, repairs = lots_and_repairs(world, readings)
    clashing = [(lot, clash_of_all(world, readings_of(readings, lot))) for lot in lots]
    mended = [(lot, course_of(world, readings_of(readings, other_lot(readings, lot)))) for lot in repairs]
    return (clashing, mended)


def is_conflict_paper(world, readings, value):
    """Whether any value is a CONFLICT PAPER."""
    if len(readings) > MOST_IN_CONFLICT or not isinstance(value, tuple) or len(value) != 2:
        return False
    labels = labels_of(readings)
    if not all(_are_told_lots(labels, told) for told in value):
        return False
    lots, repairs = value
    if not _are_whole(labels, lots, repairs):
        return False
    for lot, weights in lots:
        if not is_clash(all_rows(world, readings_of(readings, lot)), weights):
            return False
    return all(is_allowed(world, readings_of(readings, other_lot(readings, lot)), course) for lot, course in repairs)


def _are_told_lots(labels, value):
    """Whether any value is a list of tuples that begin with lots, these rising and none in another one."""
    if not isinstance(value, list) or len(value) > 1 << MOST_IN_CONFLICT:
        return False
    if not all(isinstance(told, tuple) and len(told) == 2 and _is_lot(labels, told[0]) for told in value):
        return False
    lots = [told[0] for told in value]
    return is_rising(lots) and are_apart([bits_of(lot, labels) for lot in lots])


def _is_lot(labels, value):
    """Whether any value is a rising list of unlike labels."""
    if not isinstance(value, list) or not all(label in labels for label in value):
        return False
    return is_rising(value)


def _are_whole(labels, lots, repairs):
    """Whether each lot of the labels has one of the lots in it or no label in common with one of the repairs."""
    clashing = [bits_of(lot, labels) for lot, _ in lots]
    mending = [bits_of(lot, labels) for lot, _ in repairs]
    for bits in range(1 << len(labels)):
        if not has_one_in(bits, clashing) and all(bits & repair for repair in mending):
            return False
    return True
