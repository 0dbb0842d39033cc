"""POINTS: compared, mixed, shifted, joined and cut."""

from allreadings.basics import check_many, common_divisor
from allreadings.errors import NoDirection, NothingGiven, UnevenPoint
from allreadings.fractions import ONE, compare, fraction, is_fraction, minus, over, over_one_below, plus
from allreadings.fractions import times, total, whole
from allreadings.rowsof import MOST_ROWS, MOST_UNKNOWNS


def is_fractions(value, many):
    """Whether any value is a list of so many FRACTIONS."""
    return isinstance(value, list) and len(value) == many and all(is_fraction(x) for x in value)


def is_amounts(value, many):
    """Whether any value is a list of so many FRACTIONS, none below 0."""
    return is_fractions(value, many) and all(a[0] >= 0 for a in value)


def is_point(value, many):
    """Whether any value is a POINT of so many unknowns."""
    check_many(many, 0, MOST_UNKNOWNS)
    return is_fractions(value, many)


def is_shares(value, many):
    """Whether any value is so many SHARES."""
    check_many(many, 0, MOST_ROWS)
    return is_amounts(value, many) and total(value) == ONE


def compare_points(point, other):
    """-1, 0 or 1, by the first unlike numbers."""
    for a, b in zip(point, other):
        if a != b:
            return compare(a, b)
    return 0


def rising_points(points):
    """The rising list of the points, equal ones once."""
    found = {}
    for point in points:
        found[tuple(point)] = True
    # Unlike fractions lie at least 1 divided by the product of their belows apart, so their floors are unlike, too,
    # once all are multiplied by the square of the greatest below.
    scale = max([a[1] for point in points for a in point], default=1) ** 2
    rising = sorted(list(found), key=lambda numbers: [part[0] * scale // part[1] for part in numbers])
    return [list(point) for point in rising]


def mixed(points, shares):
    """The mix of the points by the shares."""
    return [total([times(a, share) for a, share in zip(column, shares)]) for column in zip(*points)]


def middle(points):
    """The mix by equal shares."""
    if not points:
        raise NothingGiven()
    return mixed(points, [fraction(1, len(points)) for _ in points])


def share_between(point, one, other):
    """The share of other by which point is the mix of one and other; None if there is none."""
    way = apart(one, other)
    gone = apart(one, point)
    share = None
    for length, step in zip(way, gone):
        if length[0] != 0 and share is None:
            share = over(step, length)
    if share is None or share[0] < 0 or compare(share, ONE) > 0:
        return None
    if [times(length, share) for length in way] != gone:
        return None
    return share


def shifted(point, numbers, amount):
    """The point plus the products of the numbers and the amount."""
    return [plus(a, times(whole(number), amount)) for a, number in zip(point, numbers)]


def apart(point, other):
    """The numbers of other less those of point."""
    return [minus(b, a) for a, b in zip(point, other)]


def plain_direction(fractions):
    """The tuple of integers without a common divisor above 1 that is a multiple of the list."""
    numbers, _ = over_one_below(fractions)
    divisor = common_divisor(numbers)
    if divisor == 0:
        raise NoDirection()
    return tuple([number // divisor for number in numbers])


def joined_points(points):
    """The list of all numbers of the points, one point behind another."""
    return [a for point in points for a in point]


def cut_point(point, many):
    """The list of points of so many numbers each that, joined, make the point."""
    check_many(many, 1, MOST_UNKNOWNS)
    if len(point) % many != 0:
        raise UnevenPoint(many)
    return [point[k:k + many] for k in range(0, len(point), many)]
