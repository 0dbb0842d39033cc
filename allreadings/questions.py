"""Reaches, highest worths and least peaks of forms over the known courses, with their papers and judges."""

from allreadings.allrows import placed_at, point_course
from allreadings.basics import contrary
from allreadings.clashes import gap_at, is_clash
from allreadings.errors import TooMany
from allreadings.fractions import NOUGHT, compare, is_fraction, opposite, times, whole
from allreadings.greatest import bounds_of, greatest_of, least_of
from allreadings.linears import form_numbers, form_worth, is_known, is_known_move, known_rows, peak_worth
from allreadings.outs import image_system
from allreadings.points import is_amounts, is_shares
from allreadings.rowsof import is_false, sum_by_one_below
from allreadings.walk import Walk

MOST_UNKNOWNS_TAKEN_OUT = 6


def reach(world, readings, terms, *, supposed=()):
    """A REACH PAPER of the terms."""
    system = known_rows(world, readings, supposed=supposed)
    numbers = form_numbers(world, terms)
    high = greatest_of(system, numbers)
    if high[0] == "none":
        return ("clash", high[1])
    return ("reach", _end_of(world, least_of(system, numbers)), _end_of(world, high))


def _end_of(world, told):
    """What a reach paper tells of an end, of what is told of the greatest or the least."""
    if told[0] == "worth":
        _, worth, point, weights = told
        return ("at", worth, point_course(world, point), weights)
    _, point, drift = told
    return ("endless", point_course(world, point), _move_of(world, drift))


def _move_of(world, drift):
    """The drift cut into the numbers of each moment."""
    many = world[0]
    return [drift[at:at + many] for at in range(0, many * world[1], many)]


def is_reach(world, readings, terms, value, *, supposed=()):
    """Whether any value is a REACH PAPER of the terms."""
    if not isinstance(value, tuple) or len(value) not in (2, 3):
        return False
    if len(value) == 2:
        return value[0] == "clash" and is_clash(known_rows(world, readings, supposed=supposed), value[1])
    if value[0] != "reach":
        return False
    opposed = [(moment, contrary(numbers)) for moment, numbers in terms]
    if not _is_high(world, readings, terms, value[2], supposed):
        return False
    return _is_high(world, readings, opposed, _turned_end(value[1]), supposed)


def _turned_end(value):
    """Any value, but with the opposite worth if it tells one."""
    if isinstance(value, tuple) and len(value) == 4 and is_fraction(value[1]):
        return (value[0], opposite(value[1]), value[2], value[3])
    return value


def _is_high(world, readings, terms, value, supposed):
    """Whether any value is what a reach paper may tell of the greatest worth of the terms."""
    if not isinstance(value, tuple) or len(value) not in (3, 4):
        return False
    if len(value) == 3:
        return value[0] == "endless" and _is_endless(world, readings, [terms], value, supposed)
    word, worth, course, weights = value
    if word != "at" or not is_fraction(worth) or not is_known(world, readings, course, supposed=supposed):
        return False
    if form_worth(terms, course) != worth:
        return False
    numbers = [whole(number) for number in form_numbers(world, terms)]
    return _is_sum(known_rows(world, readings, supposed=supposed), weights, numbers, worth)


def _is_endless(world, readings, forms, value, supposed):
    """Whether any tuple has a known course and a known move at which all the forms, each as terms, are above 0."""
    _, course, move = value
    if not is_known(world, readings, course, supposed=supposed):
        return False
    if not is_known_move(world, readings, move, supposed=supposed):
        return False
    steps = [[whole(number) for number in numbers] for numbers in move]
    return all(form_worth(terms, steps)[0] > 0 for terms in forms)


def _is_sum(system, value, numbers, most):
    """Whether any value is weights by which the rows have just these numbers and this most as their sum."""
    return is_amounts(value, len(system[1])) and sum_by_one_below(system, value) == (numbers, most)


def ends(world, readings, terms, *, supposed=()):
    """The least and the greatest worth of the form, None for an end without end; None if no course is known."""
    return bounds_of(known_rows(world, readings, supposed=supposed), form_numbers(world, terms))


def plain_ends(world, readings, terms, *, supposed=()):
    """The same, the plain way."""
    if world[0] * world[1] > MOST_UNKNOWNS_TAKEN_OUT:
        raise TooMany("unknowns", MOST_UNKNOWNS_TAKEN_OUT)
    system = known_rows(world, readings, supposed=supposed)
    image, _ = image_system(system, [form_numbers(world, terms)])
    if any([is_false(row) for row in image[1]]):
        return None
    low, high = gap_at(image, [NOUGHT], 0)
    if low is not None and high is not None and compare(low, high) > 0:
        return None
    return (low, high)


def highest(world, readings, numbers, *, supposed=()):
    """The HIGHEST, and the first moment at which a known course has it; None if no course is known."""
    many, rows = known_rows(world, readings, supposed=supposed)
    walk = Walk(many, rows)
    if walk.settle() is not None:
        return None
    best = None
    for moment in range(world[1]):
        told = walk.top(placed_at(world, moment, (numbers, 0))[0])
        if told[0] == "endless":
            return (None, moment)
        if best is None or compare(told[1], best[0]) > 0:
            best = (told[1], moment)
    return best


def least_peak(world, readings, numbers, *, supposed=()):
    """A PEAK PAPER."""
    many, rows = known_rows(world, readings, supposed=supposed)
    # One more unknown behind all others is at least each moment's form; its least worth is the least peak.
    widened = [(row[0] + (0,), row[1]) for row in rows]
    widened.extend([(placed_at(world, at, (numbers, 0))[0] + (-1,), 0) for at in range(world[1])])
    told = least_of((many + 1, widened), (0,) * many + (1,))
    if told[0] == "none":
        return ("clash", told[1][:len(rows)])
    if told[0] == "endless":
        return ("endless", point_course(world, told[1][:-1]), _move_of(world, told[2]))
    _, worth, point, weights = told
    return ("peak", worth, point_course(world, point[:-1]), weights[len(rows):], weights[:len(rows)])


def is_least_peak(world, readings, numbers, value, *, supposed=()):
    """Whether any value is a PEAK PAPER."""
    if not isinstance(value, tuple) or len(value) not in (2, 3, 5):
        return False
    system = known_rows(world, readings, supposed=supposed)
    if len(value) == 2:
        return value[0] == "clash" and is_clash(system, value[1])
    if len(value) == 3:
        opposed = [[(moment, contrary(numbers))] for moment in range(world[1])]
        return value[0] == "endless" and _is_endless(world, readings, opposed, value, supposed)
    word, worth, course, shares, weights = value
    if word != "peak" or not is_fraction(worth) or not is_known(world, readings, course, supposed=supposed):
        return False
    if peak_worth(numbers, course) != worth or not is_shares(shares, world[1]):
        return False
    mixed_numbers = [times(whole(-number), share) for share in shares for number in numbers]
    return _is_sum(system, weights, mixed_numbers, opposite(worth))
