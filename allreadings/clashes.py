"""Clashes, rows that follow, drifts, gaps, and systems settled by taking unknowns out."""

from allreadings.basics import check_many, common_divisor, is_integers, product_sum
from allreadings.fractions import NOUGHT, fraction, greatest, least, over_one_below
from allreadings.points import is_amounts
from allreadings.rounds import Rounds
from allreadings.rowsof import sum_by_one_below


def is_weights(value, many):
    """Whether any value is WEIGHTS for so many rows."""
    check_many(many, 0, many)
    return is_amounts(value, many)


def is_clash(system, value):
    """Whether any value is a clash of the system."""
    if not is_amounts(value, len(system[1])):
        return False
    numbers, most = sum_by_one_below(system, value)
    return most[0] < 0 and not any([number[0] for number in numbers])


def is_tight(system, value):
    """Whether any value is a TIGHT clash of the system."""
    if not is_clash(system, value):
        return False
    places = weighed(value)
    return rank_of([system[1][place][0] for place in places]) == len(places) - 1


def follows(system, row, value):
    """Whether any value is weights by which the row follows."""
    if not is_amounts(value, len(system[1])):
        return False
    numbers, most = sum_by_one_below(system, value)
    return numbers == [(number, 1) for number in row[0]] and most[0] <= row[1] * most[1]


def is_drift(system, value):
    """Whether any value is a drift of the system."""
    many, rows = system
    return is_integers(value, many) and all(product_sum(row[0], value) <= 0 for row in rows)


def weighed(weights):
    """The rising list of the places of the weights that are not nought."""
    return [place for place, weight in enumerate(weights) if weight[0] != 0]


def rank_of(rows):
    """The greatest number of the tuples that are independent."""
    left = [list(row) for row in rows if any(row)]
    rank = 0
    while left:
        first = left[0]
        place = [k for k, number in enumerate(first) if number != 0][0]
        left = [_without(row, first, place) for row in left[1:]]
        left = [row for row in left if any(row)]
        rank += 1
    return rank


def _without(row, first, place):
    """A multiple of the row, less a multiple of the first one, that has 0 at the place."""
    changed = [first[place] * a - row[place] * b for a, b in zip(row, first)]
    divisor = max(1, common_divisor(changed))
    return [number // divisor for number in changed]


def gap_at(system, point, place):
    """The gap of the unknown at the place."""
    counts, below = over_one_below(point[:place] + [NOUGHT] + point[place + 1:])
    lows, highs = [], []
    for numbers, most in system[1]:
        number = numbers[place]
        if number != 0:
            bound = fraction(most * below - product_sum(numbers, counts), below * number)
            if number > 0:
                highs.append(bound)
            else:
                lows.append(bound)
    return (greatest(lows) if lows else None, least(highs) if highs else None)


def worth_in_gap(gap):
    """The worth that is put back: low, or high if there is no low, or nought."""
    low, high = gap
    if low is None:
        return NOUGHT if high is None else high
    return low


def plain_settled(system):
    """("point", point) or ("clash", weights), by taking unknowns out."""
    many, rows = system
    rounds = Rounds(many, rows)
    places = list(reversed(range(many)))
    if rounds.run(places):
        return ("clash", rounds.weights_of(rounds.false_row()))
    return ("point", filled(rounds, places, [NOUGHT for _ in range(many)]))


def filled(rounds, places, point):
    """The point with the unknowns at the places, which were taken out in this sequence, put back."""
    found = list(point)
    turns = list(zip(places, rounds.ahead))
    for place, rows in reversed(turns):
        found[place] = worth_in_gap(gap_at((rounds.many, rows), found, place))
    return found
