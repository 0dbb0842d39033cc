"""The SETS at all moments: as meets, returning, onwards; their sums, and courses through a stand."""

from allreadings.allrows import all_rows, placed_at
from allreadings.backwards import behind_set, behind_sets
from allreadings.bothways import BothWays
from allreadings.carrying import listed_sums
from allreadings.clashes import follows
from allreadings.courses import is_allowed
from allreadings.forwards import before_set, before_sets
from allreadings.meets import contains, meet
from allreadings.rowsof import is_row, keeps
from allreadings.shapes import system_of
from allreadings.stepping import stepped, stepped_back
from allreadings.worlds import check_moment


def set_everywhere(world, readings, moment):
    """The set at the moment, as a meet."""
    return meet(before_set(world, readings, moment), behind_set(world, readings, moment))


def sets_everywhere(world, readings):
    """The sets at all moments, as meets."""
    pairs = list(zip(before_sets(world, readings), behind_sets(world, readings)))
    return [meet(before, behind) for before, behind in pairs]


def sets_returning(world, readings):
    """The sets at all moments, from the last before set backwards."""
    shapes = before_sets(world, readings)
    for at in reversed(range(world[1] - 1)):
        shapes[at] = meet(shapes[at], stepped_back(shapes[at + 1], world[3][at]))
    return shapes


def sets_onwards(world, readings):
    """The sets at all moments, from the first behind set onwards."""
    shapes = behind_sets(world, readings)
    shapes[0] = meet(before_set(world, readings, 0), shapes[0])
    for at in range(1, world[1]):
        shapes[at] = meet(shapes[at], stepped(shapes[at - 1], world[3][at - 1]))
    return shapes


def set_sums(world, readings, moment):
    """The sums of the set."""
    check_moment(world, moment)
    return listed_sums(world, readings, BothWays(world, readings, moment, moment).sums_at(moment))


def course_through(world, readings, moment, stand):
    """An allowed course with the stand at the moment, None if there is none."""
    check_moment(world, moment)
    ways = BothWays(world, readings, moment, moment)
    return ways.course_at(moment, stand) if contains(ways.shape_at(moment), stand) else None


def through(world, readings, moment, stand):
    """("course", course) with the stand at the moment, or ("bar", row, weights) by which there is none."""
    check_moment(world, moment)
    ways = BothWays(world, readings, moment, moment)
    rows = system_of(ways.shape_at(moment))[1]
    broken = [place for place, row in enumerate(rows) if not keeps(row, stand)]
    if not broken:
        return ("course", ways.course_at(moment, stand))
    sums = listed_sums(world, readings, ways.sums_at(moment))
    return ("bar", rows[broken[0]], sums[broken[0]])


def is_through(world, readings, moment, stand, value):
    """Whether any value is a right one of these tuples."""
    if not isinstance(value, tuple) or len(value) not in (2, 3):
        return False
    if len(value) == 2:
        return value[0] == "course" and is_allowed(world, readings, value[1]) and value[1][moment] == stand
    word, row, weights = value
    if word != "bar" or not is_row(row, world[0]) or keeps(row, stand):
        return False
    return follows(all_rows(world, readings), placed_at(world, moment, row), weights)
