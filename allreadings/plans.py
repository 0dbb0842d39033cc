"""WIDTHS of forms, worst widths for readings that could be taken, and best picks of such readings."""

from itertools import combinations

from allreadings.allrows import all_rows, placed_at, point_course, reading_rows
from allreadings.basics import check_many, contrary, product_sum
from allreadings.clashes import follows, is_drift
from allreadings.courses import is_allowed
from allreadings.errors import CannotBeRead, NoCourse, TooFewPairs, TooMany
from allreadings.fractions import compare, fraction, is_fraction, minus, plus, times, whole
from allreadings.greatest import bounds_of, greatest_of
from allreadings.points import joined_points
from allreadings.rowsof import broken_rows, row_of, worth_at
from allreadings.solving import has_point
from allreadings.worlds import sensor_of

MOST_PLANNED = 8
MOST_PICKED = 3
MOST_LISTS = 60


def width_of(world, readings, numbers):
    """The WIDTH of the form, None if it is endless."""
    return _width_in(all_rows(world, readings), numbers)


def _width_in(system, numbers):
    told = bounds_of(system, numbers)
    if told is None:
        raise NoCourse()
    low, high = told
    return None if low is None or high is None else minus(high, low)


def width_behind(world, readings, pick, worths, numbers):
    """The width with readings of these worths added."""
    check_course(world, readings)
    many, rows = all_rows(world, readings)
    for (name, moment), worth in zip(pick, worths):
        # No row tells a label, so any word does for that of an added reading.
        added = reading_rows(world, ("", name, moment, worth))
        rows.extend([placed_at(world, moment, row) for row in added])
    if not has_point((many, rows)):
        raise CannotBeRead()
    return _width_in((many, rows), numbers)


def check_course(world, readings):
    """Raise NoCourse unless some course is allowed."""
    if not has_point(all_rows(world, readings)):
        raise NoCourse()


def twin_rows(world, readings, pick):
    """The TWIN ROWS, and over how many unknowns they are."""
    many, rows = all_rows(world, readings)
    noughts = (0,) * many
    found = [(numbers + noughts, most) for numbers, most in rows]
    found.extend([(noughts + numbers, most) for numbers, most in rows])
    for name, moment in pick:
        _, numbers, slack = sensor_of(world, name)
        twin = _twin_form(placed_at(world, moment, (numbers, 0))[0])
        for form in (twin, contrary(twin)):
            found.append(row_of([whole(number) for number in form], times(whole(2), slack)))
    return (2 * many, found)


def _twin_form(numbers):
    """The form's numbers for the first course, and their contraries for the other one."""
    return numbers + contrary(numbers)


def middle_worths(world, pick, course, other):
    """The list of the worths halfway between the sums of both courses."""
    found = []
    for name, moment in pick:
        numbers = sensor_of(world, name)[1]
        both = plus(worth_at(numbers, course[moment]), worth_at(numbers, other[moment]))
        found.append(times(both, fraction(1, 2)))
    return found


def worst_width(world, readings, pick, numbers):
    """A WORST PAPER."""
    _check_plan(world, readings)
    told = greatest_of(twin_rows(world, readings, pick), _twin_form(numbers))
    many = len(numbers)
    if told[0] == "endless":
        return ("endless", point_course(world, told[1][:many]), told[2])
    _, amount, point, weights = told
    course, other = point_course(world, point[:many]), point_course(world, point[many:])
    return ("width", amount, course, other, [times(weight, whole(amount[1])) for weight in weights])


def _check_plan(world, readings):
    check_course(world, readings)
    if world[0] * world[1] > MOST_PLANNED:
        raise TooMany("unknowns", MOST_PLANNED)


def _worst_of(world, readings, pick, numbers):
    """The worst width, None if there is none."""
    told = worst_width(world, readings, pick, numbers)
    return told[1] if told[0] == "width" else None


def _pairs_of(world):
    """The PAIRS."""
    return [(sensor[0], moment) for moment in range(world[1]) for sensor in world[4]]


def plan_list(world, readings, numbers):
    """The list of each pair with its worst width."""
    _check_plan(world, readings)
    pairs = _pairs_of(world)
    return [(name, moment, _worst_of(world, readings, [(name, moment)], numbers)) for name, moment in pairs]


def best_pick(world, readings, numbers, many):
    """The BEST pick of so many pairs, and its worst width."""
    check_many(many, 0, MOST_PICKED)
    pairs = _pairs_of(world)
    if len(pairs) < many:
        raise TooFewPairs(many)
    _check_plan(world, readings)
    picks = [list(pick) for pick in combinations(pairs, many)]
    if len(picks) > MOST_LISTS:
        raise TooMany("picks", MOST_LISTS)
    best, least = picks[0], _worst_of(world, readings, picks[0], numbers)
    for pick in picks[1:]:
        worst = _worst_of(world, readings, pick, numbers)
        if worst is not None and (least is None or compare(worst, least) < 0):
            best, least = pick, worst
    return (best, least)


def is_worst_paper(world, readings, pick, numbers, value):
    """Whether any value is a WORST PAPER."""
    if not isinstance(value, tuple) or len(value) not in (3, 5):
        return False
    system = twin_rows(world, readings, pick)
    twin = _twin_form(numbers)
    if len(value) == 3:
        word, course, drift = value
        if word != "endless" or not is_allowed(world, readings, course):
            return False
        return is_drift(system, drift) and product_sum(twin, drift) > 0
    word, amount, course, other, weights = value
    if word != "width" or not is_fraction(amount):
        return False
    if not is_allowed(world, readings, course) or not is_allowed(world, readings, other):
        return False
    point = joined_points(course + other)
    if broken_rows(system, point) or worth_at(twin, point) != amount:
        return False
    above, below = amount
    return follows(system, (tuple([number * below for number in twin]), above), weights)
