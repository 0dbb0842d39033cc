"""Shapes stepped on and back by the rows of a step."""

from allreadings.errors import TooMany
from allreadings.outlines import outline, outline_plain
from allreadings.outs import pinned
from allreadings.rowsof import MOST_ROWS
from allreadings.shapes import system_of
from allreadings.solving import point_of


def joint_system(shape, rows):
    """The rows of the shape, with noughts behind, and then the step rows."""
    many, sides = system_of(shape)
    if len(sides) + len(rows) > MOST_ROWS:
        raise TooMany("rows", MOST_ROWS)
    return (2 * many, [(numbers + (0,) * many, most) for numbers, most in sides] + rows)


def turned_rows(rows):
    """The rows with the numbers of both stands exchanged."""
    return [_turned_row(row) for row in rows]


def _turned_row(row):
    numbers, most = row
    many = len(numbers) // 2
    return (numbers[many:] + numbers[:many], most)


def stepped(shape, rows):
    """The shape of the stands that come next to some stand of the shape, by asking."""
    return outline(joint_system(shape, rows), _later_places(shape))


def stepped_plain(shape, rows):
    """The same, by taking out."""
    return outline_plain(joint_system(shape, rows), _later_places(shape))


def stepped_back(shape, rows):
    """The shape of the stands to which some stand of the shape can come next."""
    return stepped(shape, turned_rows(rows))


def led_stand(shape, rows, stand):
    """A stand of the shape to which the stand can come next, None if there is none."""
    return point_of(pinned(joint_system(shape, rows), _later_places(shape), stand))


def _later_places(shape):
    return list(range(shape[1], 2 * shape[1]))
