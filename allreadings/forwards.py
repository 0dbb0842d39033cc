"""Before sets from moment to moment, ahead sets, courses to a moment, and carried papers."""

from allreadings.allrows import reading_rows
from allreadings.carrying import carried_sums, listed_sums, paper_of, placed_sources, reading_sources, shape_sources
from allreadings.carrying import start_sources, step_sources
from allreadings.courses import set_at
from allreadings.errors import EarlierMoment, MissingMoment
from allreadings.fractions import whole
from allreadings.leveling import leveled_readings, leveled_world, move_of_course
from allreadings.meets import contains, meet
from allreadings.shapes import shape_of
from allreadings.stepping import led_stand, stepped
from allreadings.worlds import check_moment, readings_cut, world_cut


def seen_set(world, readings, moment):
    """The shape of the stands that keep the rows of the moment's readings, at moment 0 the start rows, too."""
    check_moment(world, moment)
    rows = list(world[2]) if moment == 0 else []
    return shape_of((world[0], rows + rows_read(world, readings, moment)))


def rows_read(world, readings, moment):
    """The rows of the readings of the moment, over its stand."""
    return [row for reading in readings if reading[2] == moment for row in reading_rows(world, reading)]


def before_set_plain(world, readings, moment):
    """The before set, the plain way."""
    check_moment(world, moment)
    return set_at(world_cut(world, moment + 1), readings_cut(readings, moment + 1), moment)


def next_set(world, readings, moment, shape):
    """The shape stepped by the step that leads to the moment, and met with the seen set there."""
    check_moment(world, moment)
    if moment == 0:
        raise MissingMoment(moment)
    return meet(stepped(shape, world[3][moment - 1]), seen_set(world, readings, moment))


def before_set(world, readings, moment):
    """The before set, from moment to moment."""
    check_moment(world, moment)
    return before_sets_to(world, readings, moment)[moment]


def before_sets(world, readings):
    """The list of the before sets at all moments."""
    return before_sets_to(world, readings, world[1] - 1)


def before_sets_to(world, readings, moment):
    """The list of the before sets at the moments up to this one."""
    shapes = [seen_set(world, readings, 0)]
    for at in range(1, moment + 1):
        shapes.append(next_set(world, readings, at, shapes[at - 1]))
    return shapes


def ahead_set(world, readings, moment, later):
    """The before set at the moment, stepped on to the later one."""
    check_moment(world, moment)
    check_moment(world, later)
    if later < moment:
        raise EarlierMoment(moment, later)
    shape = before_set(world, readings, moment)
    for rows in world[3][moment:later]:
        shape = stepped(shape, rows)
    return shape


def course_to(world, readings, moment, stand):
    """A course to the moment with the stand there, None if there is none."""
    check_moment(world, moment)
    shapes = before_sets_to(world, readings, moment)
    return led_back(world, shapes, moment, stand) if contains(shapes[moment], stand) else None


def led_back(world, shapes, moment, stand):
    """A course to the moment with the stand there, which is in the before set; shapes are the before sets."""
    course = [list(stand)]
    for at in reversed(range(moment)):
        course.insert(0, led_stand(shapes[at], world[3][at], course[0]))
    return course


def carried_paper(world, readings, moment):
    """A carried paper of the moment."""
    check_moment(world, moment)
    return _papers_to(world, readings, moment, moment)[0]


def carried_papers(world, readings):
    """A list with a carried paper for each moment."""
    return _papers_to(world, readings, 0, world[1] - 1)


def _papers_to(world, readings, first, last):
    """Carried papers of the moments from first to last."""
    shapes = before_sets_to(world, readings, last)
    sums = before_sums(world, readings, shapes)
    level = leveled_world(world)
    cones = _level_sets(level, readings, shapes[first:], last)
    papers = []
    for at in range(first, last + 1):
        listed = listed_sums(world_cut(world, at + 1), readings_cut(readings, at + 1), sums[at])
        courses, moves = [], []
        if shapes[at][0] == "shape":
            courses = [led_back(world, shapes, at, corner) for corner in shapes[at][3]]
            ways = [[whole(number) for number in direction] for direction in shapes[at][4]]
            moves = [move_of_course(level, led_back(level, cones, at, way)) for way in ways]
        papers.append(paper_of(shapes[at], listed, courses, moves))
    return papers


def _level_sets(level, readings, shapes, last):
    """The before sets of the level world up to the last moment, unless no direction of the shapes needs them."""
    if any([shape[0] == "shape" and shape[4] != [] for shape in shapes]):
        return before_sets_to(level, leveled_readings(readings), last)
    return []


def before_sums(world, readings, shapes):
    """For each of the first moments the sums of its before set, these sets being the shapes."""
    many = world[0]
    sums = [carried_sums(many, start_sources(world) + reading_sources(world, readings, 0), shapes[0], 0)]
    for at in range(1, len(shapes)):
        sources = placed_sources(shape_sources(shapes[at - 1], sums[at - 1]), 0, many)
        sources = sources + step_sources(world, at - 1)
        sources = sources + placed_sources(reading_sources(world, readings, at), many, 0)
        sums.append(carried_sums(2 * many, sources, shapes[at], many))
    return sums
