"""Sums carried from moment to moment.

A source is a tuple of a row over one stand, or over two neighbouring ones, and the weights by which it follows from
all rows: a dict that has them by ROW LABELS, without those that are nought. So it does not matter which moments
a world was cut to.
"""

from allreadings.allrows import reading_rows, row_labels
from allreadings.following import Following
from allreadings.fractions import NOUGHT, ONE
from allreadings.pairing import composed
from allreadings.rowsof import placed_row, plain_row
from allreadings.shapes import system_of


def start_sources(world):
    return [(plain_row(row), {("start", place): ONE}) for place, row in enumerate(world[2])]


def step_sources(world, moment):
    return [(plain_row(row), {("step", moment, place): ONE}) for place, row in enumerate(world[3][moment])]


def reading_sources(world, readings, moment):
    found = []
    for reading in readings:
        if reading[2] == moment:
            upper, lower = reading_rows(world, reading)
            found.extend([(upper, {("upper", reading[0]): ONE}), (lower, {("lower", reading[0]): ONE})])
    return found


def shape_sources(shape, sums):
    """The rows of a shape, of an empty one the false row, with the sums by which they follow."""
    return list(zip(system_of(shape)[1], sums))


def placed_sources(sources, ahead, behind):
    return [(placed_row(row, ahead, behind), told) for row, told in sources]


def carried_sums(many, sources, shape, ahead):
    """For each row of the shape, its numbers behind so many noughts, the sum by which it follows from the sources."""
    following = Following((many, [row for row, _ in sources]))
    papers = [told for _, told in sources]
    found = []
    for row in system_of(shape)[1]:
        weights = following.weights(placed_row(row, ahead, many - ahead - shape[1]))
        paper = {place: weight for place, weight in enumerate(weights) if weight[0] != 0}
        found.append(composed(paper, papers))
    return found


def listed_sums(world, readings, sums):
    """The sums as lists of weights for all rows of the world and readings."""
    labels = row_labels(world, readings)
    return [[told.get(label, NOUGHT) for label in labels] for told in sums]


def paper_of(shape, sums, courses, moves):
    """The SET PAPER for the shape; of an empty one its only sum is a clash."""
    if shape[0] == "empty":
        return ("clash", sums[0])
    return ("set", sums, courses, moves)
