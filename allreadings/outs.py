"""Systems brought down to some unknowns, worths put back, and images."""

from allreadings.basics import contrary
from allreadings.clashes import gap_at, worth_in_gap
from allreadings.fractions import NOUGHT, compare, fraction, over_one_below, times, total
from allreadings.needless import needless
from allreadings.pairing import composed, taken_out_briefly, weights_listed
from allreadings.points import is_amounts, is_point
from allreadings.rowsof import broken_rows, plain_divisor, plain_row, sum_by_one_below, tidied_with_places
from allreadings.solving import settled


def down_to(system, places):
    """The system brought down to the unknowns at the places, and its papers."""
    return _with_papers(system, _way_down(system, places, False))


def lean_down_to(system, places):
    """The same, with needless rows left out on the way."""
    return _with_papers(system, _way_down(system, places, True))


def _others(system, places):
    """The places that are not among the places, the greatest first."""
    return [place for place in reversed(range(system[0])) if place not in places]


def _way_down(system, places, lean):
    """The list of the systems on the way, each with papers over the rows of the one ahead, as dicts."""
    current, sources = tidied_with_places(system)
    papers = [{place: fraction(1, plain_divisor(system[1][place]))} for place in sources]
    way = [_made_lean(current, papers) if lean else (current, papers)]
    for place in _others(system, places):
        current, papers = taken_out_briefly(way[-1][0], place)
        way.append(_made_lean(current, papers) if lean else (current, papers))
    return way


def _made_lean(system, papers):
    many, rows = system
    out = needless(system)
    kept = [place for place in range(len(rows)) if place not in out]
    return ((many, [rows[place] for place in kept]), [papers[place] for place in kept])


def _with_papers(system, way):
    """The last system of the way, with weights over the rows given at first."""
    told = way[0][1]
    for _, papers in way[1:]:
        told = [composed(paper, told) for paper in papers]
    return (way[-1][0], [weights_listed(paper, len(system[1])) for paper in told])


def put_back(system, places, point):
    """The point that comes out of the worths at the places, or None if they do not keep the rows brought down."""
    way = [left for left, _ in _way_down(system, places, False)]
    if broken_rows(way[-1], point):
        return None
    found = list(point)
    turns = list(zip(_others(system, places), way))
    for place, left in reversed(turns):
        found = found[:place] + [NOUGHT] + found[place:]
        found[place] = worth_in_gap(gap_at(left, found, place))
    return found


def pinned(system, places, point):
    """The system over the other unknowns with the worths at the places put in."""
    many, rows = system
    return (many - len(places), [plain_row(row) for row in _pinned_rows(system, places, point)[0]])


def _pinned_rows(system, places, point):
    """The rows with the worths put in, times one below, not made plain; and the below."""
    many, rows = system
    counts, below = over_one_below(point)
    kept = [k for k in range(many) if k not in places]
    found = []
    for numbers, most in rows:
        worth = sum([numbers[place] * count for place, count in zip(places, counts)])
        found.append((tuple([numbers[k] * below for k in kept]), most * below - worth))
    return (found, below)


def back_up(system, places, point):
    """("point", point) with the worths at the places, or ("barred", weights) that the worths break."""
    rows, below = _pinned_rows(system, places, point)
    word, told = settled(pinned(system, places, point))
    if word == "clash":
        factors = [fraction(below, plain_divisor(row)) for row in rows]
        return ("barred", [times(weight, factor) for weight, factor in zip(told, factors)])
    found = list(told)
    for place, worth in zip(places, point):
        found = found[:place] + [worth] + found[place:]
    return ("point", found)


def is_back_up(system, places, point, value):
    """Whether any value is a tuple of going back up that shows what it says."""
    if not isinstance(value, tuple) or len(value) != 2:
        return False
    word, told = value
    if word == "point":
        if not is_point(told, system[0]) or broken_rows(system, told):
            return False
        return [told[place] for place in places] == point
    if word != "barred" or not is_amounts(told, len(system[1])):
        return False
    numbers, most = sum_by_one_below(system, told)
    if any([numbers[place][0] for place in _others(system, places)]):
        return False
    return compare(total([times(numbers[k], worth) for k, worth in zip(places, point)]), most) > 0


def image_system(system, forms):
    """The IMAGE of the system by the forms, and its papers."""
    many, rows = system
    count = len(forms)
    ahead = (0,) * count
    widened = [(ahead + numbers, most) for numbers, most in rows]
    for place, form in enumerate(forms):
        unit = tuple([int(k == place) for k in range(count)])
        widened.append((contrary(unit) + form, 0))
        widened.append((unit + contrary(form), 0))
    image, papers = lean_down_to((count + many, widened), list(range(count)))
    return (image, [weights[:len(rows)] for weights in papers])
