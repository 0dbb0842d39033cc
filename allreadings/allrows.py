"""ALL ROWS of a world and readings, their ROW LABELS, and courses as points."""

from allreadings.fractions import minus, plus
from allreadings.points import cut_point, joined_points
from allreadings.rowsof import band_rows, plain_row
from allreadings.worlds import check_moment, sensor_of


def reading_rows(world, reading):
    """The two plain rows of a reading over the stand: "at most" and "at least"."""
    _, numbers, slack = sensor_of(world, reading[1])
    return band_rows(numbers, minus(reading[3], slack), plus(reading[3], slack))


def all_rows(world, readings):
    """All rows, a SYSTEM over moments times many unknowns."""
    many, moments, start, steps, _ = world
    rows = [placed_at(world, 0, plain_row(row)) for row in start]
    for moment, step in enumerate(steps):
        rows.extend([placed_at(world, moment, plain_row(row)) for row in step])
    for reading in readings:
        rows.extend([placed_at(world, reading[2], row) for row in reading_rows(world, reading)])
    return (many * moments, rows)


def row_labels(world, readings):
    """The list of the ROW LABELS of all rows."""
    labels = [("start", place) for place in range(len(world[2]))]
    for moment, step in enumerate(world[3]):
        labels.extend([("step", moment, place) for place in range(len(step))])
    for reading in readings:
        labels.extend([("upper", reading[0]), ("lower", reading[0])])
    return labels


def course_point(course):
    """The POINT of a COURSE."""
    return joined_points(course)


def point_course(world, point):
    """The COURSE of which this is the point."""
    return cut_point(point, world[0])


def at_moment(world, moment, numbers):
    """The numbers at the moment, and noughts for all other unknowns of all rows."""
    check_moment(world, moment)
    return placed_at(world, moment, (numbers, 0))[0]


def placed_at(world, moment, row):
    """The row over the stand of the moment, or this one and the next, with noughts for all other moments."""
    many, moments = world[0], world[1]
    numbers, most = row
    ahead = (0,) * (many * moment)
    return (ahead + numbers + (0,) * (many * moments - len(ahead) - len(numbers)), most)
