"""Systems settled by the walk over corners: a point, or a tight clash."""

from allreadings.walk import Walk


def settled(system):
    """("point", point) or ("clash", weights)."""
    many, rows = system
    walk = Walk(many, rows)
    weights = walk.settle()
    return ("point", walk.point()) if weights is None else ("clash", weights)


def point_of(system):
    """A point that keeps all rows, None if there is none."""
    word, told = settled(system)
    return told if word == "point" else None


def clash_of(system):
    """A tight clash, None if there is none."""
    word, told = settled(system)
    return told if word == "clash" else None


def has_point(system):
    """Whether there is a point."""
    return settled(system)[0] == "point"
