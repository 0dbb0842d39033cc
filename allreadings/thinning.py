"""NEWS of readings, quiet readings, and readings thinned to a few that allow the same courses."""

from allreadings.allrows import all_rows, placed_at, point_course, reading_rows
from allreadings.basics import contrary
from allreadings.clashes import follows, is_clash
from allreadings.conflicts import check_conflict, labels_of, readings_of
from allreadings.courses import is_allowed
from allreadings.errors import StrangeLabel
from allreadings.following import Following
from allreadings.fractions import ONE, compare, plus
from allreadings.greatest import greatest_of
from allreadings.hitting import first_lot
from allreadings.plans import check_course, width_of
from allreadings.points import shifted
from allreadings.rowsof import broken_rows


def news(world, readings, label):
    """The NEWS of the reading with the label."""
    _check_label(readings, label)
    following = Following(all_rows(world, _others(readings, label)))
    if following.clash is not None:
        return ("clash", following.clash)
    found = []
    for row in _rows_of_label(world, readings, label):
        weights = following.weights(row)
        if weights is None:
            return ("new", point_course(world, following.breaking(row)))
        found.append(weights)
    return ("nothing", found[0], found[1])


def _check_label(readings, label):
    if label not in labels_of(readings):
        raise StrangeLabel(label)


def _others(readings, label):
    return [reading for reading in readings if reading[0] != label]


def _rows_of_label(world, readings, label):
    """The two rows of the reading with the label, over all unknowns."""
    reading = readings_of(readings, [label])[0]
    return [placed_at(world, reading[2], row) for row in reading_rows(world, reading)]


def is_news(world, readings, label, value):
    """Whether any value is the NEWS of the reading with the label."""
    if not isinstance(value, tuple) or len(value) not in (2, 3):
        return False
    others = _others(readings, label)
    if len(value) == 2:
        word, told = value
        if word == "clash":
            return is_clash(all_rows(world, others), told)
        return word == "new" and is_allowed(world, others, told) and not is_allowed(world, readings, told)
    if value[0] != "nothing":
        return False
    system = all_rows(world, others)
    rows = _rows_of_label(world, readings, label)
    return all(follows(system, row, weights) for row, weights in zip(rows, value[1:]))


def quiet_labels(world, readings):
    """The rising list of the labels whose news are not "new"."""
    return [label for label in labels_of(readings) if news(world, readings, label)[0] != "new"]


def thin_paper(world, readings, lot):
    """A THIN PAPER of the lot, None if it does not suffice."""
    found = []
    for label in labels_of(readings):
        if label not in lot:
            told = news(world, readings_of(readings, lot + [label]), label)
            if told[0] == "new":
                return None
            found.append(told)
    return found


def is_thin_paper(world, readings, lot, value):
    """Whether any value is a THIN PAPER of the lot."""
    others = [label for label in labels_of(readings) if label not in lot]
    if not isinstance(value, list) or len(value) != len(others):
        return False
    for label, told in zip(others, value):
        if not is_news(world, readings_of(readings, lot + [label]), label, told) or told[0] == "new":
            return False
    return True


def _labels_missed(world, readings, lot):
    """None if the lot suffices; otherwise labels of which each lot that suffices has one.

    They are those of the readings that a course breaks which the lot's readings allow.
    """
    following = Following(all_rows(world, readings_of(readings, lot)))
    if following.clash is not None:
        return None
    for label in labels_of(readings):
        if label not in lot:
            for row in _rows_of_label(world, readings, label):
                point = following.breaking(row)
                if point is not None:
                    return _labels_broken(world, readings, [point])
    return None


def _labels_broken(world, readings, found):
    """The labels of the readings that one of the points breaks."""
    labels = []
    for reading in readings:
        system = all_rows(world, [reading])
        if any([broken_rows(system, point) for point in found]):
            labels.append(reading[0])
    return labels


def thinned_plain(world, readings):
    """The lot THINNED, by trying all lots, those with fewer labels first."""
    check_conflict(readings)
    return first_lot(labels_of(readings), [], lambda lot: _labels_missed(world, readings, lot))


def thinned(world, readings):
    """The lot THINNED, by trying only lots that have all readings that are not quiet."""
    check_conflict(readings)
    quiet = quiet_labels(world, readings)
    labels = labels_of(readings)
    loud = [label for label in labels if label not in quiet]
    return first_lot(labels, loud, lambda lot: _labels_missed(world, readings, lot))


def thinned_to(world, readings, numbers, loss):
    """The first of the lots with the fewest labels whose width is at most that with all readings and the loss."""
    check_course(world, readings)
    check_conflict(readings)
    width = width_of(world, readings, numbers)
    if width is None:
        return []
    most = plus(width, loss)
    return first_lot(labels_of(readings), [], lambda lot: _labels_too_wide(world, readings, lot, numbers, most))


def _labels_too_wide(world, readings, lot, numbers, most):
    """None if the lot's width is at most so much; otherwise labels of which each lot of such a width has one.

    They are those of the readings that break one of two courses which the lot allows and which differ by more.
    """
    system = all_rows(world, readings_of(readings, lot))
    ends = [greatest_of(system, numbers), greatest_of(system, contrary(numbers))]
    for told in ends:
        if told[0] == "endless":
            # The form rises by 1 at least on each length of the drift.
            far = shifted(told[1], told[2], plus(most, ONE))
            return _labels_broken(world, readings, [told[1], far])
    high, low = ends
    if compare(plus(high[1], low[1]), most) <= 0:
        return None
    return _labels_broken(world, readings, [high[2], low[2]])
