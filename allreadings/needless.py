"""Needless rows, lean papers, and systems compared."""

from allreadings.basics import is_integer, product_sum
from allreadings.clashes import follows, is_clash, is_drift
from allreadings.following import Following
from allreadings.fractions import NOUGHT
from allreadings.points import is_point, plain_direction
from allreadings.rowsof import broken_rows, keeps, level_rows
from allreadings.walk import Walk


def needless(system):
    """The rising list of the places of the needless rows."""
    return [place for place, shown in enumerate(_gone_through(system)) if shown is None]


def lean_paper(system):
    """A LEAN PAPER with "out" for just the needless rows."""
    many, rows = system
    told = _gone_through(system)
    kept = [place for place, shown in enumerate(told) if shown is not None]
    following = Following((many, [rows[place] for place in kept]))
    paper = []
    for place, shown in enumerate(told):
        if shown is None:
            weights = [NOUGHT for _ in rows]
            for source, weight in zip(kept, following.weights(rows[place])):
                weights[source] = weight
            shown = ("out", weights)
        paper.append(shown)
    return paper


def _gone_through(system):
    """For each row None if it is needless, otherwise the tuple of a lean paper that shows that it is not.

    Rows are gone through from the last to the first one, and the needless ones left out at once.
    """
    many, rows = system
    walk = Walk(many, rows)
    clash = walk.settle()
    if clash is not None:
        return _gone_through_clashing(system, clash)
    told = [None for _ in rows]
    for place in reversed(range(len(rows))):
        walk, point = _tried(walk, place)
        if point is not None:
            told[place] = ("point", point)
    return told


def _gone_through_clashing(system, clash):
    """The same of a system without points.

    From rows without points follows what follows from them with 0 in place of each most; so their drifts are
    asked, as long as a clash is left without the row.
    """
    many, rows = system
    walk = Walk(many, level_rows(rows))
    walk.settle()
    told = [None for _ in rows]
    for place in reversed(range(len(rows))):
        if clash[place][0] != 0:
            other = Walk(many, rows)
            for held in range(len(rows)):
                if held == place or held not in walk.places:
                    other.drop(held)
            weights = other.settle()
            if weights is None:
                told[place] = ("point", other.point())
                continue
            clash = weights
        walk, point = _tried(walk, place)
        if point is not None:
            told[place] = ("drift", plain_direction(point))
    return told


def _tried(walk, place):
    """The walk without the row at place, and None; or, if a point breaks this row alone, the walk and this point."""
    trial = walk.copied()
    point = trial.fall(place)
    if point is not None:
        return (walk, point)
    trial.drop(place)
    return (trial, None)


def is_lean_paper(system, value):
    """Whether any value is a LEAN PAPER of the system."""
    many, rows = system
    if not isinstance(value, list) or len(value) != len(rows):
        return False
    if not all(isinstance(told, tuple) and len(told) == 2 for told in value):
        return False
    out = [place for place, told in enumerate(value) if told[0] == "out"]
    return all(_is_shown(system, out, place, told) for place, told in enumerate(value))


def _is_shown(system, out, place, told):
    """Whether what is told of the row at place shows it, when the rows at the places out are left out."""
    many, rows = system
    word, shown = told
    others = [row for k, row in enumerate(rows) if k != place and k not in out]
    if word == "out":
        return follows(system, rows[place], shown) and not any([shown[k][0] for k in out])
    if word == "point":
        if not is_point(shown, many) or keeps(rows[place], shown):
            return False
        return broken_rows((many, others), shown) == []
    if word == "drift":
        return is_drift((many, others), shown) and product_sum(rows[place][0], shown) > 0
    return False


def equal(system, other):
    """The comparison of two systems."""
    one, two = Following(system), Following(other)
    if one.clash is not None and two.clash is not None:
        return ("none", one.clash, two.clash)
    if two.clash is not None:
        return ("apart", 0, one.walk.point())
    if one.clash is not None:
        return ("apart", 1, two.walk.point())
    for place, first, second in ((0, one, two), (1, two, one)):
        for row in second.system[1]:
            point = first.breaking(row)
            if point is not None:
                return ("apart", place, point)
    sums = [one.weights(row) for row in other[1]]
    return ("equal", sums, [two.weights(row) for row in system[1]])


def is_equal_paper(system, other, value):
    """Whether any value is one of the three kinds of comparison, with what shows it."""
    if not isinstance(value, tuple) or len(value) != 3:
        return False
    word, first, second = value
    if word == "none":
        return is_clash(system, first) and is_clash(other, second)
    if word == "equal":
        return _are_sums(system, other, first) and _are_sums(other, system, second)
    if word != "apart" or not is_integer(first) or first not in (0, 1):
        return False
    if not is_point(second, system[0]):
        return False
    inside, outside = (system, other) if first == 0 else (other, system)
    return broken_rows(inside, second) == [] and broken_rows(outside, second) != []


def _are_sums(system, other, value):
    """Whether any value is a list of weights by which each row of the other system follows."""
    if not isinstance(value, list) or len(value) != len(other[1]):
        return False
    return all(follows(system, row, weights) for row, weights in zip(other[1], value))
