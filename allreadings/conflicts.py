"""LOTS of readings: whether they hold or clash, least lots, and their papers."""

from allreadings.allrows import all_rows, point_course
from allreadings.clashes import is_clash
from allreadings.courses import blamed_labels, clash_of_all, course_of, is_allowed, named_clash
from allreadings.errors import NotLeast, StrangeLabel, TooMany, TwiceLabel
from allreadings.lots import least_and_greatest
from allreadings.solving import has_point, settled

MOST_IN_CONFLICT = 10


def labels_of(readings):
    """The rising list of the labels."""
    return sorted([reading[0] for reading in readings])


def check_conflict(readings):
    """Raise TooMany if there are more readings than all lots of them are looked at."""
    if len(readings) > MOST_IN_CONFLICT:
        raise TooMany("readings", MOST_IN_CONFLICT)


def lot_of(readings, labels):
    """The LOT of labels in any sequence."""
    known = labels_of(readings)
    for label in labels:
        if label not in known:
            raise StrangeLabel(label)
    for place, label in enumerate(labels):
        if label in labels[:place]:
            raise TwiceLabel(label)
    return sorted(labels)


def readings_of(readings, lot):
    """The list of the lot's readings."""
    return [reading for reading in readings if reading[0] in lot]


def other_lot(readings, lot):
    """The lot of all other labels."""
    return [label for label in labels_of(readings) if label not in lot]


def without(lot, label):
    """The lot with one label left out."""
    return [other for other in lot if other != label]


def lot_holds(world, readings, lot):
    """Whether the lot's readings allow a course."""
    return has_point(all_rows(world, readings_of(readings, lot)))


def lot_paper(world, readings, lot):
    """A LOT PAPER."""
    word, told = settled(all_rows(world, readings_of(readings, lot)))
    return ("course", point_course(world, told)) if word == "point" else ("clash", told)


def is_lot_paper(world, readings, lot, value):
    """Whether any value is a LOT PAPER of the lot."""
    if not isinstance(value, tuple) or len(value) != 2:
        return False
    word, told = value
    kept = readings_of(readings, lot)
    if word == "course":
        return is_allowed(world, kept, told)
    return word == "clash" and is_clash(all_rows(world, kept), told)


def is_least_lot(world, readings, lot):
    """Whether the lot clashes, and holds with any one of its labels left out."""
    if lot_holds(world, readings, lot):
        return False
    return all(lot_holds(world, readings, without(lot, label)) for label in lot)


def least_paper(world, readings, lot):
    """A LEAST PAPER of the lot."""
    weights = clash_of_all(world, readings_of(readings, lot))
    courses = [course_of(world, readings_of(readings, without(lot, label))) for label in lot]
    if weights is None or None in courses:
        raise NotLeast(list(lot))
    return ("least", weights, courses)


def is_least_paper(world, readings, lot, value):
    """Whether any value is a LEAST PAPER of the lot."""
    if not isinstance(value, tuple) or len(value) != 3 or value[0] != "least":
        return False
    _, weights, courses = value
    if not isinstance(courses, list) or len(courses) != len(lot):
        return False
    if not is_clash(all_rows(world, readings_of(readings, lot)), weights):
        return False
    others = [readings_of(readings, without(lot, label)) for label in lot]
    return all(is_allowed(world, kept, course) for kept, course in zip(others, courses))


def left_lot(world, readings, lot):
    """The least lot that is left by leaving out, from the greatest label on; None if the lot holds."""
    if lot_holds(world, readings, lot):
        return None
    left = list(lot)
    for label in reversed(lot):
        if not lot_holds(world, readings, without(left, label)):
            left = without(left, label)
    return left


def lot_by_papers(world, readings, lot):
    """A least lot in the lot, by the labels that clashes blame; None if the lot holds."""
    left = _blamed_lot(world, readings, lot)
    if left is None:
        return None
    for label in reversed(lot):
        if label in left:
            blamed = _blamed_lot(world, readings, without(left, label))
            left = left if blamed is None else blamed
    return left


def _blamed_lot(world, readings, lot):
    """The labels that a clash of the lot's readings blames, None if the lot holds."""
    clash = named_clash(world, readings_of(readings, lot))
    return None if clash is None else blamed_labels(clash)


def least_lots_plain(world, readings):
    """All least lots, by trying the lots, those with fewer labels first."""
    check_conflict(readings)
    return sorted(least_and_greatest(labels_of(readings), lambda lot: lot_holds(world, readings, lot))[0])
