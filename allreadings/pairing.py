"""One unknown taken out of a system, by pairs of rows."""

from allreadings.errors import TooMany
from allreadings.fractions import NOUGHT, fraction, plus, times
from allreadings.rowsof import MOST_LEFT, plain_divisor, plain_row, tidied_with_places


def paired(upper, lower, place):
    """The PAIR of an upper and a lower row for the unknown at place."""
    return plain_row(_pair_sum(upper, lower, place))


def taken_out(system, place):
    """The system of the rows left, and its papers."""
    left, papers = taken_out_briefly(system, place)
    return (left, [weights_listed(paper, len(system[1])) for paper in papers])


def taken_out_briefly(system, place):
    """As taken_out, but each paper is a dict of the weights that are not nought, by their places."""
    found, sources = rows_without(system, place)
    left, places = tidied_with_places((system[0] - 1, found))
    if len(places) > MOST_LEFT:
        raise TooMany("rows", MOST_LEFT)
    papers = []
    for at in places:
        divisor = plain_divisor(found[at])
        papers.append({k: fraction(count, divisor) for k, count in sources[at]})
    return (left, papers)


def rows_without(system, place):
    """The rows left and the pairs, none made plain; and for each the places and counts of the rows it is a sum of."""
    rows = system[1]
    uppers = [k for k, row in enumerate(rows) if row[0][place] > 0]
    lowers = [k for k, row in enumerate(rows) if row[0][place] < 0]
    found, sources = [], []
    for k, row in enumerate(rows):
        if row[0][place] == 0:
            found.append((_without(row[0], place), row[1]))
            sources.append([(k, 1)])
    for k in uppers:
        for j in lowers:
            found.append(_pair_sum(rows[k], rows[j], place))
            sources.append([(k, -rows[j][0][place]), (j, rows[k][0][place])])
    return (found, sources)


def composed(paper, papers):
    """The paper, with the rows that it weighs replaced by the sums that these are."""
    found = {}
    for place, weight in paper.items():
        for source, part in papers[place].items():
            found[source] = plus(found.get(source, NOUGHT), times(weight, part))
    return found


def weights_listed(paper, many):
    """The list of weights of which a dict has those that are not nought."""
    return [paper.get(k, NOUGHT) for k in range(many)]


def _without(numbers, place):
    return numbers[:place] + numbers[place + 1:]


def _pair_sum(upper, lower, place):
    """The pair, not made plain."""
    up, down = -lower[0][place], upper[0][place]
    numbers = tuple([up * a + down * b for a, b in zip(upper[0], lower[0])])
    return (_without(numbers, place), up * upper[1] + down * lower[1])
