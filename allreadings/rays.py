"""Sets of the plane as rings of rays: a corner (x, y) as (x, y, 1), a direction (x, y) as (x, y, 0), times anything.

A ring has the corners and directions of a set that holds no line, as one meets them when one goes round it with the
set on the left; its rays are integers without a common divisor above 1.
"""

from allreadings.basics import common_divisor, contrary, product_sum
from allreadings.fractions import over_one_below


def ray_of_point(point):
    numbers, below = over_one_below(point)
    return (numbers[0], numbers[1], below)


def shortened(numbers):
    """The tuple without a common divisor above 1; of noughts alone as it is."""
    divisor = max(1, common_divisor(numbers))
    return tuple([number // divisor for number in numbers])


def crossed(one, other):
    """The tuple whose products with both come to 0: the line through two rays, or the ray on two lines."""
    return (
        one[1] * other[2] - one[2] * other[1],
        one[2] * other[0] - one[0] * other[2],
        one[0] * other[1] - one[1] * other[0],
    )


def side_of(one, other):
    """Above 0 if the direction other lies to the left of one, below 0 if to the right."""
    return one[0] * other[1] - one[1] * other[0]


def turned(numbers):
    """The direction turned to the left by a right angle."""
    return (-numbers[1], numbers[0])


def line_of(row):
    """The row as numbers whose products with a ray sum up to what the row leaves there."""
    return contrary(row[0]) + (row[1],)


def wedge(row, other):
    """The ring of the points that keep two rows which are not along one another."""
    corner = shortened(crossed(line_of(row), line_of(other)))
    if corner[2] < 0:
        corner = contrary(corner)
    along = _inward(row, other)
    back = _inward(other, row)
    if side_of(along, back) < 0:
        along, back = back, along
    return [corner, along + (0,), back + (0,)]


def _inward(row, other):
    """The direction along the row's line that keeps the other row."""
    way = shortened(turned(row[0]))
    return contrary(way) if product_sum(other[0], way) > 0 else way


def clipped(ring, line):
    """The ring of the part that keeps a row, told as its line."""
    # A ring of two rays is gone along there and back, so a crossing would come twice but for the dict.
    found = {}
    for at, ray in enumerate(ring):
        ahead = ring[at - 1]
        room, room_ahead = product_sum(line, ray), product_sum(line, ahead)
        if room_ahead * room < 0:
            found[_crossing(ahead, room_ahead, ray, room)] = True
        if room >= 0:
            found[ray] = True
    return list(found)


def _crossing(one, room, other, other_room):
    """The ray between two on unlike sides of a row at which the row leaves nothing."""
    size, other_size = abs(other_room), abs(room)
    return shortened(tuple([size * a + other_size * b for a, b in zip(one, other)]))


def ring_of_rows(rows):
    """The ring of the points that keep tidy rows, the first two of unlike lines put first."""
    first = rows[0]
    second = [row for row in rows if side_of(first[0], row[0]) != 0][0]
    ring = wedge(first, second)
    for row in rows:
        ring = clipped(ring, line_of(row))
    return ring


def ring_of_points(points, directions):
    """The ring of the hull of rising points, and of no direction, one, or the two outermost ones."""
    corners = _round_points([ray_of_point(point) for point in points])
    if not directions:
        return corners
    start, end = directions[0], directions[-1]
    if side_of(start, end) < 0:
        start, end = end, start
    # Going round one leaves the last corner along start, and comes back along end to the first one.
    first = _outermost(corners, end, 1)
    last = _outermost(corners, start, -1)
    at, kept = corners.index(first), []
    while not kept or kept[-1] != last:
        kept.append(corners[at])
        at = (at + 1) % len(corners)
    kept.append(start + (0,))
    if end != start:
        kept.append(end + (0,))
    return kept


def _outermost(corners, direction, side):
    """The corner farthest to the left of the direction, or to the right if the side is -1; of several the hindmost."""
    best = corners[0]
    across = contrary(turned(direction)) if side < 0 else turned(direction)
    for ray in corners[1:]:
        ahead = _ahead(across, ray, best)
        if ahead > 0 or (ahead == 0 and _ahead(direction, ray, best) < 0):
            best = ray
    return best


def _ahead(direction, ray, other):
    """Above 0 if the corner ray is farther ahead in the direction than the other one."""
    return product_sum(direction, ray) * other[2] - product_sum(direction, other) * ray[2]


def _round_points(rays):
    """The ring of the hull of rising unlike corners."""
    if len(rays) < 3:
        return list(rays)
    lower = _half_round(rays)
    upper = _half_round(list(reversed(rays)))
    return lower[:-1] + upper[:-1]


def _half_round(rays):
    """The corners on the right hand as one goes from the first to the last one."""
    kept = []
    for ray in rays:
        while len(kept) > 1 and product_sum(crossed(kept[-2], kept[-1]), ray) <= 0:
            kept.pop()
        kept.append(ray)
    return kept
