"""Slacks raised, and the least extra by which they must be raised so that the readings allow a course."""

from allreadings.allrows import all_rows, placed_at, point_course
from allreadings.basics import contrary
from allreadings.clashes import follows, is_clash
from allreadings.courses import clash_of_all, is_allowed
from allreadings.fractions import is_fraction, minus, plus, times, whole
from allreadings.greatest import least_of
from allreadings.rowsof import row_of
from allreadings.worlds import copied_world, sensor_of


def raised_world(world, extra):
    """The world with every slack raised by the extra."""
    many, moments, start, steps, sensors = copied_world(world)
    raised = [(name, numbers, plus(slack, extra)) for name, numbers, slack in sensors]
    return (many, moments, start, steps, raised)


def widened(world, readings):
    """The WIDENED system."""
    many, rows = all_rows(world, [])
    found = [(numbers + (0,), most) for numbers, most in rows]
    for _, name, moment, worth in readings:
        _, numbers, slack = sensor_of(world, name)
        found.append(_row_less_extra(world, moment, numbers, plus(worth, slack)))
        found.append(_row_less_extra(world, moment, contrary(numbers), minus(slack, worth)))
    found.append(((0,) * many + (-1,), 0))
    return (many + 1, found)


def _row_less_extra(world, moment, numbers, most):
    """The plain row of "the sum at the moment, less the extra, is at most most"."""
    placed = placed_at(world, moment, (numbers, 0))[0] + (-1,)
    return row_of([whole(number) for number in placed], most)


def _row_of_amount(many, amount):
    """The row over so many unknowns of "the last one is at least the amount"."""
    above, below = amount
    return ((0,) * (many - 1) + (-below,), -above)


def least_extra(world, readings):
    """An EXTRA PAPER."""
    many, rows = widened(world, readings)
    told = least_of((many, rows), (0,) * (many - 1) + (1,))
    if told[0] == "none":
        return ("none", clash_of_all(world, []))
    _, amount, point, weights = told
    return ("extra", amount, point_course(world, point[:-1]), [times(weight, whole(amount[1])) for weight in weights])


def is_extra_paper(world, readings, value):
    """Whether any value is an EXTRA PAPER."""
    if not isinstance(value, tuple) or len(value) not in (2, 4):
        return False
    if len(value) == 2:
        return value[0] == "none" and is_clash(all_rows(world, []), value[1])
    word, amount, course, weights = value
    if word != "extra" or not is_fraction(amount) or amount[0] < 0:
        return False
    if not is_allowed(raised_world(world, amount), readings, course):
        return False
    system = widened(world, readings)
    return follows(system, _row_of_amount(system[0], amount), weights)
