"""Shapes the plain way, cut shapes, and mixes."""

from itertools import combinations

from allreadings.basics import check_many, contrary, product_sum
from allreadings.following import Following
from allreadings.fractions import ONE, fraction, over_one_below, times, total, whole
from allreadings.points import is_amounts
from allreadings.rays import crossed, line_of, shortened, turned
from allreadings.shapes import hull, shape_of


def plain_shape(system):
    """The shape of the system's points: the hull of all candidates that keep all rows."""
    many, rows = system
    check_many(many, 1, 2)
    lines = [line_of(row) for row in rows]
    points = _kept(lines, _candidate_points(many, rows, lines))
    directions = _kept(lines, _candidate_directions(many, rows))
    corners = [[fraction(number, ray[-1]) for number in ray[:-1]] for ray in points]
    return hull(many, corners, [ray[:-1] for ray in directions])


def _kept(lines, rays):
    return [ray for ray in rays if all(product_sum(line, ray) >= 0 for line in lines)]


def _candidate_points(many, rows, lines):
    """The crossings, the feet and the origin, each once, as rays whose last number is what the others stand over."""
    found = {(0,) * many + (1,): True}
    for numbers, most in rows:
        if any(numbers):
            foot = tuple([number * most for number in numbers]) + (product_sum(numbers, numbers),)
            found[shortened(foot)] = True
    if many == 2:
        for line, other in combinations(lines, 2):
            ray = shortened(crossed(line, other))
            if ray[2] != 0:
                found[ray if ray[2] > 0 else contrary(ray)] = True
    return list(found)


def _candidate_directions(many, rows):
    """Both ways along each row's line, the opposite of its numbers, and both ways along each unknown."""
    found = {}
    for place in range(many):
        unit = tuple([int(k == place) for k in range(many)])
        found[unit + (0,)] = True
        found[contrary(unit) + (0,)] = True
    for numbers, _ in rows:
        if any(numbers):
            found[contrary(numbers) + (0,)] = True
            if many == 2:
                found[turned(numbers) + (0,)] = True
                found[contrary(turned(numbers)) + (0,)] = True
    return list(found)


def cut(shape, row):
    """The shape of the points of the shape that keep the row."""
    if shape[0] == "empty":
        return ("empty", shape[1])
    return shape_of((shape[1], shape[2] + [row]))


def mix_of(shape, point):
    """A mix of the point, None if it is not in the shape.

    The point is a mix if, as a row, it follows from the corners and directions as rows: each point has one more
    number there, -1, and all is times a below.
    """
    if shape[0] == "empty":
        return None
    many, corners, directions = shape[1], shape[3], shape[4]
    told = [over_one_below(corner) for corner in corners]
    rows = [(tuple(numbers) + (-below,), 0) for numbers, below in told]
    rows = rows + [(direction + (0,), 0) for direction in directions]
    counts, under = over_one_below(point)
    weights = Following((many + 1, rows)).weights((tuple(counts) + (-under,), 0))
    if weights is None:
        return None
    shares = [times(weight, fraction(below, under)) for weight, (_, below) in zip(weights, told)]
    return (shares, [times(weight, fraction(1, under)) for weight in weights[len(corners):]])


def is_mix(shape, point, value):
    """Whether any value is a mix of the point."""
    if shape[0] == "empty" or not isinstance(value, tuple) or len(value) != 2:
        return False
    shares, amounts = value
    corners, directions = shape[3], shape[4]
    if not is_amounts(shares, len(corners)) or not is_amounts(amounts, len(directions)):
        return False
    if total(shares) != ONE:
        return False
    for place, number in enumerate(point):
        sums = [times(share, corner[place]) for share, corner in zip(shares, corners)]
        sums = sums + [times(amount, whole(way[place])) for amount, way in zip(amounts, directions)]
        if total(sums) != number:
            return False
    return True
