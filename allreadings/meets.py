"""Points inside and outside of shapes; meets, hulls and sums of two shapes."""

from allreadings.basics import product_sum
from allreadings.fractions import plus
from allreadings.following import broken_along
from allreadings.rowsof import broken_rows, keeps
from allreadings.shapes import hull, shape_of, system_of


def contains(shape, point):
    """Whether the point is in the shape."""
    return broken_rows(system_of(shape), point) == []


def is_within(shape, other):
    """Whether all points of the shape are in the other one."""
    return outside(shape, other) is None


def outside(shape, other):
    """A point of the shape that is not in the other one, None if it is within."""
    if shape[0] == "empty":
        return None
    corners, directions = shape[3], shape[4]
    for row in system_of(other)[1]:
        for corner in corners:
            if not keeps(row, corner):
                return list(corner)
        for direction in directions:
            if product_sum(row[0], direction) > 0:
                return broken_along(row, corners[0], direction)
    return None


def meet(shape, other):
    """The shape of the points that are in both."""
    return shape_of((shape[1], system_of(shape)[1] + system_of(other)[1]))


def around(shape, other):
    """The least shape that holds all points of both."""
    points = [corner for part in (shape, other) if part[0] == "shape" for corner in part[3]]
    return hull(shape[1], points, _directions_of(shape) + _directions_of(other))


def sum_of_shapes(shape, other):
    """The shape of all sums of a point of the one and a point of the other."""
    if shape[0] == "empty" or other[0] == "empty":
        return ("empty", shape[1])
    points = [[plus(a, b) for a, b in zip(one, two)] for one in shape[3] for two in other[3]]
    return hull(shape[1], points, _directions_of(shape) + _directions_of(other))


def _directions_of(shape):
    return list(shape[4]) if shape[0] == "shape" else []
