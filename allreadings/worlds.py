"""WORLDS, SENSORS and READINGS: whether a value is one, and worlds and readings cut, from a moment on, and moved."""

from allreadings.basics import check_many, is_count, is_integer, is_integers, product_sum
from allreadings.errors import MissingMoment, MissingSensor
from allreadings.fractions import is_fraction, plus, whole
from allreadings.rowsof import is_row
from allreadings.words import is_name

MOST_MOMENTS = 8
MOST_WORLD_ROWS = 8
MOST_SENSORS = 6
MOST_READINGS = 30


def is_sensor(value):
    """Whether any value is a SENSOR with 1 or 2 numbers."""
    if not isinstance(value, tuple) or len(value) != 3:
        return False
    name, numbers, slack = value
    if not is_name(name) or not (is_integers(numbers, 1) or is_integers(numbers, 2)):
        return False
    return any(numbers) and is_fraction(slack) and slack[0] >= 0


def is_world(value):
    """Whether any value is a WORLD."""
    if not isinstance(value, tuple) or len(value) != 5:
        return False
    many, moments, start, steps, sensors = value
    if not is_integer(many) or many not in (1, 2):
        return False
    if not is_integer(moments) or not 1 <= moments <= MOST_MOMENTS:
        return False
    if not _is_rows(start, many) or not isinstance(steps, list) or len(steps) != moments - 1:
        return False
    return all(_is_rows(rows, 2 * many) for rows in steps) and _is_sensors(sensors, many)


def _is_rows(value, many):
    """Whether any value is a list of rows over so many unknowns, as many as a start or a step may have."""
    if not isinstance(value, list) or len(value) > MOST_WORLD_ROWS:
        return False
    return all(is_row(row, many) for row in value)


def _is_sensors(value, many):
    if not isinstance(value, list) or len(value) > MOST_SENSORS:
        return False
    if not all(is_sensor(sensor) and len(sensor[1]) == many for sensor in value):
        return False
    return len(set([sensor[0] for sensor in value])) == len(value)


def is_reading(world, value):
    """Whether any value is a READING that fits the world."""
    if not isinstance(value, tuple) or len(value) != 4:
        return False
    label, sensor, moment, worth = value
    if not is_name(label) or not is_name(sensor) or sensor not in [told[0] for told in world[4]]:
        return False
    return is_count(moment) and moment < world[1] and is_fraction(worth)


def is_readings(world, value):
    """Whether any value is READINGS that fit the world."""
    if not isinstance(value, list) or len(value) > MOST_READINGS:
        return False
    if not all(is_reading(world, reading) for reading in value):
        return False
    return len(set([reading[0] for reading in value])) == len(value)


def sensor_of(world, name):
    """The SENSOR of this name."""
    for sensor in world[4]:
        if sensor[0] == name:
            return sensor
    raise MissingSensor(name)


def check_moment(world, moment):
    """Raise MissingMoment unless the world has the moment."""
    if not is_count(moment) or moment >= world[1]:
        raise MissingMoment(moment)


def copied_world(world):
    """An equal world of new lists."""
    many, moments, start, steps, sensors = world
    return (many, moments, list(start), [list(rows) for rows in steps], list(sensors))


def world_cut(world, many):
    """The world cut to the first moments, so many."""
    check_many(many, 1, world[1])
    size, _, start, steps, sensors = world
    return copied_world((size, many, start, steps[:many - 1], sensors))


def readings_cut(readings, many):
    """The readings of the first moments, so many."""
    check_many(many, 1, MOST_MOMENTS)
    return [reading for reading in readings if reading[2] < many]


def world_from(world, moment):
    """The world from the moment on."""
    check_moment(world, moment)
    many, moments, _, steps, sensors = world
    return copied_world((many, moments - moment, [], steps[moment:], sensors))


def readings_from(readings, many):
    """The readings from the moment of this number on, which becomes the first one."""
    check_many(many, 0, MOST_MOMENTS - 1)
    kept = [reading for reading in readings if reading[2] >= many]
    return [(label, sensor, moment - many, worth) for label, sensor, moment, worth in kept]


def world_moved(world, offsets):
    """The world whose allowed courses are those of the world with the offsets added."""
    many, moments, start, steps, sensors = world
    moved = [_moved_rows(rows, offsets[at] + offsets[at + 1]) for at, rows in enumerate(steps)]
    return (many, moments, _moved_rows(start, offsets[0]), moved, list(sensors))


def _moved_rows(rows, numbers):
    return [(row[0], row[1] + product_sum(row[0], numbers)) for row in rows]


def readings_moved(world, readings, offsets):
    """The readings of the moved world."""
    moved = []
    for label, sensor, moment, worth in readings:
        amount = product_sum(sensor_of(world, sensor)[1], offsets[moment])
        moved.append((label, sensor, moment, plus(worth, whole(amount))))
    return moved
