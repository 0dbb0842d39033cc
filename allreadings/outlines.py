"""OUTLINES of systems at one or two places: by asking for greatest worths, by taking out, and their papers."""

from allreadings.basics import is_integers
from allreadings.clashes import follows, is_clash, is_drift
from allreadings.following import Following
from allreadings.fractions import over_one_below, whole
from allreadings.outs import back_up, lean_down_to
from allreadings.points import is_point, plain_direction
from allreadings.rays import shortened
from allreadings.rowsof import broken_rows, level_rows
from allreadings.shapes import hull, shape_of, system_of
from allreadings.walk import Walk


def outline(system, places):
    """The outline, by asking."""
    many, rows = system
    bounded = level_rows(rows)
    for place in places:
        for side in (1, -1):
            bounded.append((_at_places(many, [place], (side,)), 1))
    size = len(places)
    corners = _asked((many, bounded), places, [])[3]
    ways = [plain_direction(corner) for corner in corners if corner != [whole(0)] * size]
    return _asked(system, places, ways)


def _asked(system, places, directions):
    """The outline of a system whose outline has just these directions, or some that come to the same."""
    size = len(places)
    walk = Walk(system[0], system[1])
    if walk.settle() is not None:
        return ("empty", size)
    parts = [part_of(walk.point(), places)]
    found = hull(size, parts, directions)
    # A row that holds for the whole system is not asked for again.
    held = {}
    while True:
        left = [row for row in found[2] if row not in held]
        if not left:
            return found
        numbers, most = left[0]
        told = walk.top(_at_places(system[0], places, numbers))
        above, below = told[1]
        if above > most * below:
            parts.append(part_of(told[2], places))
            found = hull(size, parts, directions)
        else:
            held[left[0]] = True


def part_of(point, places):
    """The PART of a point at the places, a list."""
    return [point[place] for place in places]


def _at_places(many, places, numbers):
    """The numbers at the places, and noughts elsewhere."""
    found = [0] * many
    for place, number in zip(places, numbers):
        found[place] = number
    return tuple(found)


def outline_plain(system, places):
    """The outline, by taking out."""
    return shape_of(lean_down_to(system, places)[0])


def outline_paper(system, places):
    """An outline paper for the outline."""
    shape = outline(system, places)
    following = Following(system)
    if shape[0] == "empty":
        return ("clash", following.clash)
    level = (system[0], level_rows(system[1]))
    sums = [following.weights((_at_places(system[0], places, row[0]), row[1])) for row in shape[2]]
    points = [back_up(system, places, corner)[1] for corner in shape[3]]
    drifts = [_drift_over(level, places, direction) for direction in shape[4]]
    return ("set", sums, points, drifts)


def _drift_over(level, places, direction):
    """A drift whose part is a multiple of the direction by an amount above 0; level has 0 as each most."""
    point = back_up(level, places, [whole(number) for number in direction])[1]
    return tuple(over_one_below(point)[0])


def is_outline_paper(value, system, places, shape):
    """Whether any value is an outline paper for the shape."""
    if not isinstance(value, tuple):
        return False
    if shape[0] == "empty":
        return len(value) == 2 and value[0] == "clash" and is_clash(system, value[1])
    if len(value) != 4 or value[0] != "set":
        return False
    for part, told in zip(value[1:], shape[2:]):
        if not isinstance(part, list) or len(part) != len(told):
            return False
    _, sums, points, drifts = value
    for (numbers, most), weights in zip(system_of(shape)[1], sums):
        if not follows(system, (_at_places(system[0], places, numbers), most), weights):
            return False
    if not all(_is_over_corner(system, places, corner, point) for corner, point in zip(shape[3], points)):
        return False
    return all(_is_along(system, places, direction, drift) for direction, drift in zip(shape[4], drifts))


def _is_over_corner(system, places, corner, value):
    """Whether any value is a point of the system whose part is the corner."""
    if not is_point(value, system[0]) or broken_rows(system, value):
        return False
    return part_of(value, places) == corner


def _is_along(system, places, direction, value):
    """Whether any value is a drift whose part is the direction times an integer above 0."""
    if not is_integers(value, system[0]) or not is_drift(system, value):
        return False
    return shortened(tuple(part_of(value, places))) == direction
