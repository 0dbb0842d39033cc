"""SET PAPERS: made carried and the plain way, and their judge; MOVES and LEVEL worlds."""

from allreadings.allrows import all_rows, course_point, point_course
from allreadings.basics import is_integers
from allreadings.bothways import BothWays
from allreadings.carrying import listed_sums, paper_of
from allreadings.clashes import is_drift
from allreadings.courses import is_course
from allreadings.everywhere import course_through
from allreadings.fractions import whole
from allreadings.leveling import leveled_readings, leveled_world, move_of_course
from allreadings.outlines import is_outline_paper, outline_paper
from allreadings.shapes import is_shape
from allreadings.worlds import check_moment


def level_world(world):
    """The world made level."""
    return leveled_world(world)


def level_readings(readings):
    """The readings made level."""
    return leveled_readings(readings)


def is_move(world, readings, value):
    """Whether any value is a MOVE."""
    return is_steps(world, value) and is_drift(all_rows(world, readings), joined_move(value))


def is_steps(world, value):
    """Whether any value is a list of a tuple of integers for each moment."""
    if not isinstance(value, list) or len(value) != world[1]:
        return False
    return all(is_integers(numbers, world[0]) for numbers in value)


def joined_move(move):
    """The numbers of the move as one tuple."""
    return tuple([number for numbers in move for number in numbers])


def move_through(world, readings, moment, direction):
    """A move with an amount above 0 times the direction at the moment, None if there is none."""
    level = leveled_world(world)
    course = course_through(level, leveled_readings(readings), moment, [whole(number) for number in direction])
    return None if course is None else move_of_course(level, course)


def set_paper(world, readings, moment):
    """A set paper for the set at the moment, made carried."""
    check_moment(world, moment)
    return _papers(world, readings, moment, moment)[0]


def papers_everywhere(world, readings):
    """The list of a set paper for each moment."""
    return _papers(world, readings, 0, world[1] - 1)


def _papers(world, readings, first, last):
    """Set papers of the moments from first to last."""
    level = leveled_world(world)
    ways = BothWays(world, readings, first, last)
    shapes = [ways.shape_at(at) for at in range(first, last + 1)]
    level_ways = None
    if any([shape[0] == "shape" and shape[4] != [] for shape in shapes]):
        level_ways = BothWays(level, leveled_readings(readings), first, last)
    papers = []
    for at in range(first, last + 1):
        shape, courses, moves = shapes[at - first], [], []
        if shape[0] == "shape":
            courses = [ways.course_at(at, corner) for corner in shape[3]]
            for direction in shape[4]:
                course = level_ways.course_at(at, [whole(number) for number in direction])
                moves.append(move_of_course(level, course))
        papers.append(paper_of(shape, listed_sums(world, readings, ways.sums_at(at)), courses, moves))
    return papers


def plain_set_paper(world, readings, moment):
    """A set paper for the set at the moment, from an outline paper of all rows."""
    check_moment(world, moment)
    told = outline_paper(all_rows(world, readings), _places_at(world, moment))
    if told[0] == "clash":
        return told
    _, sums, points, drifts = told
    many = world[0]
    moves = [[drift[at:at + many] for at in range(0, len(drift), many)] for drift in drifts]
    return ("set", sums, [point_course(world, point) for point in points], moves)


def _places_at(world, moment):
    """The places of the unknowns of the moment's stand."""
    return list(range(world[0] * moment, world[0] * (moment + 1)))


def is_set_paper(world, readings, moment, shape, value):
    """Whether any value shape is a SHAPE and any value a set paper for it."""
    if not is_shape(shape) or shape[1] != world[0] or not isinstance(value, tuple):
        return False
    paper = value
    if len(value) == 4:
        _, sums, courses, moves = value
        if not isinstance(courses, list) or not all(is_course(world, course) for course in courses):
            return False
        if not isinstance(moves, list) or not all(is_steps(world, move) for move in moves):
            return False
        paper = (value[0], sums, [course_point(course) for course in courses], [joined_move(move) for move in moves])
    return is_outline_paper(paper, all_rows(world, readings), _places_at(world, moment), shape)


def is_everywhere(world, readings, shapes, value):
    """Whether any values shapes and value are lists of a SHAPE, and of a set paper for it, for each moment."""
    for told in (shapes, value):
        if not isinstance(told, list) or len(told) != world[1]:
            return False
    moments = list(range(world[1]))
    return all(is_set_paper(world, readings, at, shapes[at], value[at]) for at in moments)
