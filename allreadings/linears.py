"""TERMS, LINEARS and SAYINGS about several moments, and the courses known if some linears are supposed."""

from allreadings.allrows import all_rows, course_point, point_course
from allreadings.basics import is_count, is_integer, is_integers
from allreadings.clashes import is_drift
from allreadings.courses import is_course
from allreadings.fractions import compare, greatest, total, whole
from allreadings.rowsof import broken_rows, worth_at
from allreadings.setpapers import is_steps, joined_move
from allreadings.solving import point_of

MOST_LINEARS = 8
MOST_SUPPOSED = 4


def is_terms(world, value):
    """Whether any value is TERMS of this world."""
    if not isinstance(value, list) or not all(_is_term(world, term) for term in value):
        return False
    moments = [term[0] for term in value]
    return moments == sorted(set(moments))


def _is_term(world, value):
    """Whether any value is a tuple of a moment and numbers."""
    if not isinstance(value, tuple) or len(value) != 2:
        return False
    moment, numbers = value
    return is_count(moment) and moment < world[1] and is_integers(numbers, world[0]) and any(numbers)


def is_linear(world, value):
    """Whether any value is a LINEAR of this world."""
    if not isinstance(value, tuple) or len(value) != 2:
        return False
    return is_terms(world, value[0]) and is_integer(value[1])


def is_saying(world, value):
    """Whether any value is a SAYING of this world."""
    if not isinstance(value, tuple) or len(value) != 2:
        return False
    word, linears = value
    if word not in ("all", "any") or not isinstance(linears, list) or len(linears) > MOST_LINEARS:
        return False
    return all(is_linear(world, linear) for linear in linears)


def is_supposed(world, value):
    """Whether any value is linears SUPPOSED of this world."""
    if not isinstance(value, (list, tuple)) or len(value) > MOST_SUPPOSED:
        return False
    return all(is_linear(world, linear) for linear in value)


def form_numbers(world, terms):
    """The numbers of the terms for all unknowns."""
    by_moment = {moment: numbers for moment, numbers in terms}
    found = []
    for moment in range(world[1]):
        found.extend(by_moment.get(moment, (0,) * world[0]))
    return tuple(found)


def linear_row(world, linear):
    """The ROW of a linear."""
    terms, most = linear
    return (form_numbers(world, terms), most)


def linears_at(numbers, most, first, last):
    """The list of the linears AT the moments from first to last."""
    return [([(moment, numbers)], most) for moment in range(first, last + 1)]


def form_worth(terms, course):
    """The worth of the form at the course."""
    return total([worth_at(numbers, course[moment]) for moment, numbers in terms])


def peak_worth(numbers, course):
    """The PEAK of the course."""
    return greatest([worth_at(numbers, stand) for stand in course])


def keeps_linear(linear, course):
    """Whether the course keeps the linear."""
    terms, most = linear
    return compare(form_worth(terms, course), whole(most)) <= 0


def keeps_saying(saying, course):
    """Whether the course keeps the saying."""
    word, linears = saying
    kept = [keeps_linear(linear, course) for linear in linears]
    return all(kept) if word == "all" else any(kept)


def known_rows(world, readings, *, supposed=()):
    """The KNOWN ROWS."""
    many, rows = all_rows(world, readings)
    return (many, rows + [linear_row(world, linear) for linear in supposed])


def known_course(world, readings, *, supposed=()):
    """A known course, None if there is none."""
    point = point_of(known_rows(world, readings, supposed=supposed))
    return None if point is None else point_course(world, point)


def is_known(world, readings, value, *, supposed=()):
    """Whether any value is a known course."""
    if not is_course(world, value):
        return False
    return broken_rows(known_rows(world, readings, supposed=supposed), course_point(value)) == []


def is_known_move(world, readings, value, *, supposed=()):
    """Whether any value is a known move."""
    if not is_steps(world, value):
        return False
    return is_drift(known_rows(world, readings, supposed=supposed), joined_move(value))
