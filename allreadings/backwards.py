"""Behind sets from moment to moment, their sums, and late courses."""

from allreadings.carrying import carried_sums, listed_sums, placed_sources, reading_sources, shape_sources
from allreadings.carrying import step_sources
from allreadings.courses import is_allowed, set_at
from allreadings.forwards import rows_read
from allreadings.meets import contains, meet
from allreadings.shapes import shape_of
from allreadings.stepping import led_stand, stepped_back, turned_rows
from allreadings.worlds import check_moment, readings_from, world_from


def read_set(world, readings, moment):
    """The shape of the rows of the moment's readings."""
    check_moment(world, moment)
    return shape_of((world[0], rows_read(world, readings, moment)))


def last_behind(world, readings):
    """The behind set at the last moment."""
    return read_set(world, readings, world[1] - 1)


def behind_one(world, readings, moment, shape):
    """The meet of the read set at the moment and of the shape, of the next one, stepped back."""
    return meet(read_set(world, readings, moment), stepped_back(shape, world[3][moment]))


def behind_set(world, readings, moment):
    """The behind set, from moment to moment."""
    check_moment(world, moment)
    return behind_sets_from(world, readings, moment)[moment]


def behind_sets(world, readings):
    """The list of the behind sets at all moments."""
    return behind_sets_from(world, readings, 0)


def behind_sets_from(world, readings, moment):
    """The list of the behind sets from the moment on, with None for each moment ahead of it."""
    shapes = [None] * world[1]
    shapes[-1] = last_behind(world, readings)
    for at in reversed(range(moment, world[1] - 1)):
        shapes[at] = behind_one(world, readings, at, shapes[at + 1])
    return shapes


def behind_plain(world, readings, moment):
    """The behind set, the plain way."""
    check_moment(world, moment)
    return set_at(world_from(world, moment), readings_from(readings, moment), 0)


def behind_sums(world, readings, moment):
    """The sums of the behind set."""
    check_moment(world, moment)
    shapes = behind_sets_from(world, readings, moment)
    return listed_sums(world, readings, behind_sums_from(world, readings, shapes, moment)[moment])


def behind_sums_from(world, readings, shapes, moment):
    """The sums of the behind sets, which are the shapes, from the moment on, with None for each one ahead of it."""
    many, last = world[0], world[1] - 1
    sums = [None] * world[1]
    sums[last] = carried_sums(many, reading_sources(world, readings, last), shapes[last], 0)
    for at in reversed(range(moment, last)):
        sources = placed_sources(reading_sources(world, readings, at), 0, many)
        sources = sources + step_sources(world, at)
        sources = sources + placed_sources(shape_sources(shapes[at + 1], sums[at + 1]), many, 0)
        sums[at] = carried_sums(2 * many, sources, shapes[at], 0)
    return sums


def late_course(world, readings, moment, stand):
    """A late course from the stand at the moment, None if there is none."""
    check_moment(world, moment)
    shapes = behind_sets_from(world, readings, moment)
    return led_on(world, shapes, moment, stand) if contains(shapes[moment], stand) else None


def led_on(world, shapes, moment, stand):
    """A late course from the stand, which is in the behind set; shapes are the behind sets."""
    course = [list(stand)]
    for at in range(moment, world[1] - 1):
        course.append(led_stand(shapes[at + 1], turned_rows(world[3][at]), course[-1]))
    return course


def is_late_course(world, readings, moment, stand, value):
    """Whether any value is a late course from the stand at the moment."""
    if not is_allowed(world_from(world, moment), readings_from(readings, moment), value):
        return False
    return value[0] == stand
