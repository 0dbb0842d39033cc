"""Greatest worths of forms, by the walk and by taking out; bounds, drifts, and rows that follow."""

from allreadings.basics import contrary, product_sum
from allreadings.clashes import filled, gap_at, is_clash, is_drift, plain_settled, rank_of, worth_in_gap
from allreadings.following import Following
from allreadings.fractions import NOUGHT, compare, is_fraction, opposite, over, whole
from allreadings.points import is_amounts, is_point, plain_direction
from allreadings.rounds import Rounds
from allreadings.rowsof import broken_rows, level_rows, sum_by_one_below, worth_at
from allreadings.walk import Walk


def greatest_of(system, numbers):
    """The GREATEST of the form, by the walk."""
    many, rows = system
    walk = Walk(many, rows)
    weights = walk.settle()
    return ("none", weights) if weights is not None else walk.top(numbers)


def least_of(system, numbers):
    """The GREATEST of the form's contrary, with the fraction turned round."""
    told = greatest_of(system, contrary(numbers))
    if told[0] != "worth":
        return told
    return ("worth", opposite(told[1]), told[2], told[3])


def plain_greatest(system, numbers):
    """The GREATEST of the form, by taking out all but one more unknown ahead, which stands for its worth."""
    many, rows = system
    widened = [((0,) + row[0], row[1]) for row in rows]
    widened = widened + [((-1,) + numbers, 0), ((1,) + contrary(numbers), 0)]
    rounds = Rounds(many + 1, widened)
    places = list(reversed(range(1, many + 1)))
    rounds.run(places)
    if rounds.false_row() is None:
        low, high = gap_at((many + 1, list(rounds.left)), [NOUGHT] * (many + 1), 0)
        if low is None or high is None or compare(low, high) <= 0:
            return _plain_told(system, numbers, rounds, low, high)
        # The last unknown has no worth left, so taking it out as well brings a false row.
        rounds.take_out(0)
    return ("none", rounds.weights_of(rounds.false_row())[:-2])


def _plain_told(system, numbers, rounds, low, high):
    """What is told of a form whose worths go from low to high."""
    many, rows = system
    places = list(reversed(range(1, many + 1)))
    # From high downwards: high, or low if there is no high, or nought.
    worth = worth_in_gap((high, low))
    point = filled(rounds, places, [worth] + [NOUGHT for _ in range(many)])[1:]
    if high is not None:
        return ("worth", high, point, _weights_of_high(rounds, high))
    drifting = (many, level_rows(rows) + [(contrary(numbers), -1)])
    return ("endless", point, plain_direction(plain_settled(drifting)[1]))


def _weights_of_high(rounds, high):
    """The weights of the row left that holds the unknown ahead to high, without the two rows of the form."""
    holding = [row for row in rounds.left if row[0][0] > 0 and row[1] * high[1] == high[0] * row[0][0]]
    number = whole(holding[0][0][0])
    return [over(weight, number) for weight in rounds.weights_of(holding[0])[:-2]]


def is_greatest(system, numbers, value):
    """Whether any value is a GREATEST of the form."""
    if not isinstance(value, tuple) or len(value) not in (2, 3, 4):
        return False
    if value[0] == "none":
        return len(value) == 2 and is_clash(system, value[1])
    if len(value) == 2 or not _is_kept(system, value[-2]):
        return False
    if value[0] == "endless":
        drift = value[2]
        return len(value) == 3 and is_drift(system, drift) and product_sum(numbers, drift) > 0
    return value[0] == "worth" and len(value) == 4 and _is_worth(system, numbers, value)


def _is_kept(system, point):
    return is_point(point, system[0]) and broken_rows(system, point) == []


def _is_worth(system, numbers, value):
    _, worth, point, weights = value
    if not is_fraction(worth) or worth_at(numbers, point) != worth:
        return False
    if not is_amounts(weights, len(system[1])):
        return False
    return sum_by_one_below(system, weights) == ([whole(number) for number in numbers], worth)


def bounds_of(system, numbers):
    """The tuple of the least and the greatest worth, None for an endless one; None alone without a point."""
    many, rows = system
    walk = Walk(many, rows)
    if walk.settle() is not None:
        return None
    low, high = walk.top(contrary(numbers)), walk.top(numbers)
    return (opposite(low[1]) if low[0] == "worth" else None, high[1] if high[0] == "worth" else None)


def follow_of(system, row):
    """Weights by which the row follows, None if there are none."""
    return Following(system).weights(row)


def drift_of(system):
    """A drift that is not all 0, without a common divisor above 1; None if there is none."""
    many, rows = system
    walk = Walk(many, level_rows(rows))
    walk.settle()
    told = walk.top(tuple([-sum([row[0][k] for row in rows]) for k in range(many)]))
    if told[0] == "endless":
        return told[2]
    # Now each drift has worth 0 in all rows, so there is one only if the rows do not fix all unknowns.
    if rank_of([row[0] for row in rows]) == many:
        return None
    forms = [tuple([int(k == place) for k in range(many)]) for place in range(many)]
    tops = [walk.top(form) for form in forms]
    return [top[2] for top in tops if top[0] == "endless"][0]
