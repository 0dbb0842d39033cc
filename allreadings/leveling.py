"""LEVEL worlds and readings, and their courses made moves."""

from allreadings.allrows import course_point
from allreadings.fractions import NOUGHT, over_one_below
from allreadings.rowsof import level_rows


def leveled_world(world):
    """The world with 0 as each most and nought as each slack."""
    many, moments, start, steps, sensors = world
    level_sensors = [(name, numbers, NOUGHT) for name, numbers, _ in sensors]
    return (many, moments, level_rows(start), [level_rows(rows) for rows in steps], level_sensors)


def leveled_readings(readings):
    """The readings with the worth nought."""
    return [(label, sensor, moment, NOUGHT) for label, sensor, moment, _ in readings]


def move_of_course(world, course):
    """The least multiple of a course of the level world whose numbers are all integers, as a move."""
    numbers = over_one_below(course_point(course))[0]
    many = world[0]
    return [tuple(numbers[at:at + many]) for at in range(0, len(numbers), many)]
