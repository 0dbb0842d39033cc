"""COURSES, clashes of all rows, and the SET at a moment, the plain way."""

from allreadings.allrows import all_rows, course_point, point_course, row_labels
from allreadings.clashes import is_clash
from allreadings.errors import TooMany
from allreadings.fractions import NOUGHT, is_fraction
from allreadings.points import is_fractions
from allreadings.rowsof import broken_rows
from allreadings.shapes import shape_of
from allreadings.solving import clash_of, point_of
from allreadings.unbounded import left_of
from allreadings.worlds import check_moment

MOST_UNKNOWNS_TAKEN_OUT = 6


def is_course(world, value):
    """Whether any value is a COURSE of the world, allowed or not."""
    if not isinstance(value, list) or len(value) != world[1]:
        return False
    return all(is_fractions(stand, world[0]) for stand in value)


def is_allowed(world, readings, value):
    """Whether any value is an allowed course."""
    return is_course(world, value) and fault_of(world, readings, value) is None


def fault_of(world, readings, course):
    """The label of the first of all rows that the course does not keep, None if it is allowed."""
    broken = broken_rows(all_rows(world, readings), course_point(course))
    return row_labels(world, readings)[broken[0]] if broken else None


def course_of(world, readings):
    """An allowed course, None if there is none."""
    point = point_of(all_rows(world, readings))
    return None if point is None else point_course(world, point)


def clash_of_all(world, readings):
    """Weights that are a clash of all rows, None if there is none."""
    return clash_of(all_rows(world, readings))


def named_clash(world, readings):
    """A named clash, None if there is none."""
    weights = clash_of_all(world, readings)
    if weights is None:
        return None
    labels = row_labels(world, readings)
    return [(label, weight) for label, weight in zip(labels, weights) if weight[0] != 0]


def is_named_clash(world, readings, value):
    """Whether any value is a named clash."""
    if not isinstance(value, list) or not all(_is_named_weight(told) for told in value):
        return False
    labels = row_labels(world, readings)
    weights = [NOUGHT for _ in labels]
    at = 0
    for label, weight in value:
        # Looking on from the label named last, one that stands there or ahead of it is not found any more.
        if label not in labels[at:]:
            return False
        at = at + labels[at:].index(label) + 1
        weights[at - 1] = weight
    return is_clash(all_rows(world, readings), weights)


def _is_named_weight(value):
    """Whether any value is a tuple of some tuple without True and False and a FRACTION above nought."""
    if not isinstance(value, tuple) or len(value) != 2:
        return False
    label, weight = value
    if not isinstance(label, tuple) or any(isinstance(part, bool) for part in label):
        return False
    return is_fraction(weight) and weight[0] > 0


def blamed_labels(clash):
    """The rising list of the labels of the readings whose rows are named."""
    return sorted(set([label[1] for label, _ in clash if label[0] in ("upper", "lower")]))


def set_at(world, readings, moment):
    """The SET at the moment, by taking out all unknowns of the other moments."""
    check_moment(world, moment)
    many, moments = world[0], world[1]
    if many * moments > MOST_UNKNOWNS_TAKEN_OUT:
        raise TooMany("unknowns", MOST_UNKNOWNS_TAKEN_OUT)
    # From both ends inwards: so what is left of the moments taken out speaks of the next moment alone.
    going = list(range(many * moment)) + list(reversed(range(many * (moment + 1), many * moments)))
    return shape_of(left_of(all_rows(world, readings), going))
