"""SHAPES: of systems, of points and directions, and whether a value is one."""

from allreadings.basics import check_many, common_divisor, contrary, is_integer, is_integers, product_sum
from allreadings.fractions import NOUGHT, compare, fraction, greatest, least, whole
from allreadings.points import apart, is_fractions, plain_direction, rising_points
from allreadings.rays import crossed, ring_of_points, ring_of_rows, shortened, side_of, turned
from allreadings.rowsof import band_rows, is_false, is_row, plain_row, row_of, tidied, worth_at


def is_shape(value):
    """Whether any value is a SHAPE: one has the words told for it, and is the hull of its corners and directions."""
    if not isinstance(value, tuple) or len(value) not in (2, 5):
        return False
    many = value[1]
    if not is_integer(many) or many not in (1, 2):
        return False
    if len(value) == 2:
        return value[0] == "empty"
    rows, corners, directions = value[2:]
    if value[0] != "shape" or not all(isinstance(part, list) for part in value[2:]):
        return False
    if not all(is_row(row, many) for row in rows) or not all(is_fractions(corner, many) for corner in corners):
        return False
    if not all(is_integers(direction, many) and any(direction) for direction in directions):
        return False
    return value == hull(many, corners, directions)


def empty_shape(many):
    """The shape without points."""
    check_many(many, 1, 2)
    return ("empty", many)


def whole_shape(many):
    """The shape of all points."""
    check_many(many, 1, 2)
    return shape_of((many, []))


def shape_of(system):
    """The shape of the points of the system."""
    many = system[0]
    check_many(many, 1, 2)
    rows = tidied(system)[1]
    if rows and is_false(rows[0]):
        return ("empty", many)
    if many == 1:
        return _shape_of_line(rows)
    if not rows or not any([side_of(rows[0][0], row[0]) for row in rows]):
        return _shape_of_band(rows)
    return _shape_of_ring(ring_of_rows(rows))


def system_of(shape):
    """The system of the shape's rows."""
    if shape[0] == "empty":
        return (shape[1], [((0,) * shape[1], -1)])
    return (shape[1], list(shape[2]))


def hull(many, points, directions):
    """The hull of points and directions."""
    check_many(many, 1, 2)
    if not points:
        return ("empty", many)
    ways = outermost(many, directions)
    if many == 1:
        return shape_of((1, _rows_between((1,), points, ways)))
    if len(ways) == 4:
        return whole_shape(2)
    for way in ways:
        if contrary(way) in ways:
            across = turned(way)
            return shape_of((2, _rows_between(across, points, ways)))
    return _shape_of_ring(ring_of_points(rising_points(points), ways))


def outermost(many, directions):
    """The directions that a shape has, of all that are sums of these by amounts from 0.

    They are the numbers of the rows of the shape of all that have no worth above 0 at these.
    """
    polar = shape_of((many, [(direction, 0) for direction in directions]))
    return [row[0] for row in polar[2]]


def _rows_between(numbers, points, ways):
    """The rows that hold the form of the numbers between its worths at the points, where no way leads on."""
    worths = [worth_at(numbers, point) for point in points]
    rows = []
    if not any([product_sum(numbers, way) > 0 for way in ways]):
        rows.append(_row_at(numbers, greatest(worths)))
    if not any([product_sum(numbers, way) < 0 for way in ways]):
        rows.append(band_rows(numbers, least(worths), greatest(worths))[1])
    return rows


def _row_at(numbers, worth):
    return row_of([whole(number) for number in numbers], worth)


def _shape_of_line(rows):
    """The shape of tidy rows over one unknown, none false: at most one bound on each side."""
    lows = [fraction(most, numbers[0]) for numbers, most in rows if numbers[0] < 0]
    highs = [fraction(most, numbers[0]) for numbers, most in rows if numbers[0] > 0]
    if lows and highs and compare(lows[0], highs[0]) > 0:
        return ("empty", 1)
    corners = [[bound] for bound in lows + highs]
    directions = [] if lows else [(-1,)]
    if not highs:
        directions.append((1,))
    return ("shape", 1, rows, rising_points(corners) if corners else [[NOUGHT]], directions)


def _shape_of_band(rows):
    """The shape of tidy rows over two unknowns that are all along one another."""
    if not rows:
        return ("shape", 2, [], [[NOUGHT, NOUGHT]], [(-1, 0), (0, -1), (0, 1), (1, 0)])
    way = shortened(turned(rows[0][0]))
    directions = [way, contrary(way)]
    if len(rows) == 1:
        directions.append(contrary(shortened(rows[0][0])))
    elif not _leave_room(rows[0], rows[1]):
        return ("empty", 2)
    return ("shape", 2, rows, rising_points([foot_of(row) for row in rows]), sorted(directions))


def _leave_room(row, other):
    """Whether a point keeps both of two rows with opposite sides of parallel lines."""
    size, other_size = common_divisor(row[0]), common_divisor(other[0])
    return row[1] * other_size + other[1] * size >= 0


def foot_of(row):
    """The point of the row's line that is nearest to the origin."""
    numbers, most = row
    return [fraction(number * most, product_sum(numbers, numbers)) for number in numbers]


def _shape_of_ring(ring):
    """The shape of two unknowns whose ring this is; without a corner it is empty."""
    corners = [[fraction(ray[0], ray[2]), fraction(ray[1], ray[2])] for ray in ring if ray[2] != 0]
    directions = [shortened(ray[:2]) for ray in ring if ray[2] == 0]
    if not corners:
        return ("empty", 2)
    corners = rising_points(corners)
    if len(ring) > 2:
        rows = _rows_of_sides(ring)
    elif len(ring) == 2:
        rows = _rows_along(corners, directions)
    else:
        rows = band_rows((1, 0), corners[0][0], corners[0][0]) + band_rows((0, 1), corners[0][1], corners[0][1])
    return ("shape", 2, sorted(rows), corners, sorted(directions))


def _rows_of_sides(ring):
    """The plain rows of the sides of an area, none for the side from one direction to another."""
    rows = []
    for at, ray in enumerate(ring):
        ahead = ring[at - 1]
        if ray[2] != 0 or ahead[2] != 0:
            line = crossed(ahead, ray)
            rows.append(plain_row(((-line[0], -line[1]), line[2])))
    return rows


def _rows_along(corners, directions):
    """The rows of a stretch between two corners, or of a half line from one along a direction."""
    first = corners[0]
    if directions:
        way = directions[0]
    else:
        way = plain_direction(apart(first, corners[1]))
    across = worth_at(turned(way), first)
    rows = band_rows(turned(way), across, across)
    rows.append(band_rows(way, worth_at(way, first), whole(0))[1])
    if not directions:
        rows.append(_row_at(way, worth_at(way, corners[1])))
    return rows
