"""ROWS and SYSTEMS: kept, made plain, summed up and made tidy."""

from math import gcd

from allreadings.basics import check_many, common_divisor, is_count, is_integer, is_integers, product_sum
from allreadings.errors import TooMany, UnlikeMany
from allreadings.fractions import fraction, minus, opposite, over_one_below, plus, times, whole

MOST_UNKNOWNS = 20
MOST_ROWS = 200
MOST_LEFT = 400


def is_row(value, many):
    """Whether any value is a ROW over so many unknowns."""
    check_many(many, 0, MOST_UNKNOWNS)
    if not isinstance(value, tuple) or len(value) != 2:
        return False
    return is_integers(value[0], many) and is_integer(value[1])


def is_system(value):
    """Whether any value is a SYSTEM."""
    if not isinstance(value, tuple) or len(value) != 2:
        return False
    many, rows = value
    if not is_count(many) or many > MOST_UNKNOWNS:
        return False
    return isinstance(rows, list) and len(rows) <= MOST_ROWS and all(is_row(row, many) for row in rows)


def is_false(row):
    """Whether the row has only noughts and no point keeps it."""
    return not any(row[0]) and row[1] < 0


def is_idle(row):
    """Whether the row has only noughts and each point keeps it."""
    return not any(row[0]) and row[1] >= 0


def is_plain(row):
    return row == plain_row(row)


def plain_row(row):
    """The row made plain."""
    numbers, most = row
    if not any(numbers):
        return (numbers, -1 if most < 0 else 0)
    divisor = plain_divisor(row)
    return (tuple([number // divisor for number in numbers]), most // divisor)


def plain_divisor(row):
    """What a row is divided by when it is made plain; 1 for an idle one, which is not divided."""
    numbers, most = row
    if not any(numbers):
        return max(1, -most)
    return gcd(common_divisor(numbers), most)


def row_of(fractions, most):
    """The plain row that is a multiple of the list and most, by an amount above 0."""
    numbers, _ = over_one_below(list(fractions) + [most])
    return plain_row((tuple(numbers[:-1]), numbers[-1]))


def band_rows(numbers, low, high):
    """The plain rows of "the sum is at most high" and of "it is at least low"."""
    upper = [whole(number) for number in numbers]
    lower = [whole(-number) for number in numbers]
    return [row_of(upper, high), row_of(lower, opposite(low))]


def worth_at(numbers, point):
    """The sum of the products of the numbers and the point's."""
    counts, below = over_one_below(point)
    return fraction(product_sum(numbers, counts), below)


def room_at(row, point):
    """What the row leaves at the point: its most less the sum."""
    return minus(whole(row[1]), worth_at(row[0], point))


def keeps(row, point):
    """Whether the point keeps the row."""
    return room_at(row, point)[0] >= 0


def broken_rows(system, point):
    """The rising list of the places of the rows that the point does not keep."""
    counts, below = over_one_below(point)
    rows = system[1]
    return [k for k, (numbers, most) in enumerate(rows) if product_sum(numbers, counts) > most * below]


def sum_of(system, weights):
    """The sum of the rows by weights, fraction by fraction."""
    many, rows = system
    numbers = [whole(0) for _ in range(many)]
    most = whole(0)
    for (row_numbers, row_most), weight in zip(rows, weights):
        numbers = [plus(a, times(whole(b), weight)) for a, b in zip(numbers, row_numbers)]
        most = plus(most, times(whole(row_most), weight))
    return (numbers, most)


def sum_by_one_below(system, weights):
    """The sum of the rows by weights, divided once."""
    many, rows = system
    counts, below = over_one_below(weights)
    weighted = [(row, count) for row, count in zip(rows, counts) if count]
    numbers = [sum([row[0][k] * count for row, count in weighted]) for k in range(many)]
    most = sum([row[1] * count for row, count in weighted])
    return ([fraction(number, below) for number in numbers], fraction(most, below))


def placed_row(row, ahead, behind):
    """The row with so many noughts ahead and behind."""
    check_many(ahead, 0, MOST_UNKNOWNS)
    check_many(behind, 0, MOST_UNKNOWNS)
    numbers, most = row
    if ahead + len(numbers) + behind > MOST_UNKNOWNS:
        raise TooMany("unknowns", MOST_UNKNOWNS)
    return ((0,) * ahead + numbers + (0,) * behind, most)


def moved_row(row, shift):
    """The plain row that a point plus the shift keeps exactly if the point keeps the row."""
    numbers, most = row
    return row_of([whole(number) for number in numbers], plus(whole(most), worth_at(numbers, shift)))


def joined_system(system, other_system):
    """The rows of both systems."""
    many, rows = system
    other_many, other_rows = other_system
    if many != other_many:
        raise UnlikeMany(many, other_many)
    if len(rows) + len(other_rows) > MOST_ROWS:
        raise TooMany("rows", MOST_ROWS)
    return (many, rows + other_rows)


def level_rows(rows):
    """The rows with 0 in place of each most."""
    return [(numbers, 0) for numbers, _ in rows]


def tidied(system):
    """The system made tidy."""
    return tidied_with_places(system)[0]


def tidied_with_places(system):
    """The system made tidy, and for each of its rows the place of the given one that it is a multiple of."""
    many, rows = system
    best = {}
    for place, row in enumerate(rows):
        if is_false(row):
            return ((many, [plain_row(row)]), [place])
        divisor = common_divisor(row[0])
        if divisor == 0:
            continue
        direction = tuple([number // divisor for number in row[0]])
        if direction not in best or row[1] * best[direction][1] < best[direction][0] * divisor:
            best[direction] = (row[1], divisor, place)
    found = sorted([(plain_row(rows[told[2]]), told[2]) for told in best.values()])
    return ((many, [row for row, _ in found]), [place for _, place in found])
