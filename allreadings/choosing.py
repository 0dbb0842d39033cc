"""CHOICES of sensors taken as wrong: which of them fit, tables that bar them, and choice papers."""

from itertools import combinations

from allreadings.allrows import all_rows
from allreadings.basics import check_many
from allreadings.courses import clash_of_all
from allreadings.errors import AskedBothWays
from allreadings.solving import has_point
from allreadings.tables import answers_by, blamed_by, first_level, is_choice_of, is_table_of, kept_by, next_level
from allreadings.tables import table_of
from allreadings.worlds import MOST_SENSORS


def is_choice(world, value):
    """Whether any value is a CHOICE."""
    return is_choice_of(world, value)


def all_choices(world, most):
    """All choices with at most so many names, in sequence."""
    check_wrong(most)
    names = sorted([sensor[0] for sensor in world[4]])
    found = []
    for size in range(min(most, len(names)) + 1):
        found.extend([list(choice) for choice in combinations(names, size)])
    return found


def check_wrong(most):
    """Raise InvalidMany unless so many sensors may be told as wrong."""
    check_many(most, 0, MOST_SENSORS)


def kept_readings(readings, choice):
    """The readings kept by the choice."""
    return kept_by(readings, choice)


def fits(world, readings, choice):
    """Whether the readings kept by the choice allow a course."""
    return has_point(all_rows(world, kept_by(readings, choice)))


def fitting_choices(world, readings, most):
    """The fitting choices with at most so many names, in sequence, by trying all."""
    return [choice for choice in all_choices(world, most) if fits(world, readings, choice)]


def fitting_by_least(world, readings, most):
    """The same, as the choices that contain a least one."""
    choices = all_choices(world, most)
    leasts = least_choices(world, readings)
    return [choice for choice in choices if _contains_one(choice, leasts)]


def _contains_one(choice, others):
    """Whether one of the others is contained in the choice."""
    return any([all(name in choice for name in other) for other in others])


def least_choices(world, readings):
    """The least fitting choices, in sequence, by blame."""
    question = (MOST_SENSORS, [], [], [])
    found = []
    level = first_level(question)
    while level:
        clashing, blames = [], []
        for choice in level:
            kept = kept_by(readings, choice)
            weights = clash_of_all(world, kept)
            if weights is None:
                found.append(choice)
            else:
                clashing.append(choice)
                blames.append(blamed_by(world, kept, weights))
        level = [choice for choice in next_level(question, clashing, blames) if not _contains_one(choice, found)]
    return found


def least_wrong(world, readings):
    """How many names the first least choice has, None if there is none."""
    leasts = least_choices(world, readings)
    return len(leasts[0]) if leasts else None


def blamed_sensors(world, readings, weights):
    """The choice of the sensors that the weights blame."""
    return blamed_by(world, readings, weights)


def is_table(world, readings, most, must, never, rows, goal, value):
    """Whether any value is a TABLE of the question and the goal."""
    _check_question(most, must, never)
    return is_table_of(world, readings, (most, must, never, rows), goal, value)


def choice_paper(world, readings, most, must, never, rows):
    """A choice paper of the question."""
    _check_question(most, must, never)
    told = table_of(world, readings, (most, must, never, rows), None)
    return ("bar", told[1]) if told[0] == "table" else told


def is_choice_paper(world, readings, most, must, never, rows, value):
    """Whether any value is a choice paper of the question."""
    _check_question(most, must, never)
    if not isinstance(value, tuple) or len(value) not in (2, 3):
        return False
    question = (most, must, never, rows)
    if len(value) == 2:
        return value[0] == "bar" and is_table_of(world, readings, question, None, value[1])
    return value[0] == "choice" and answers_by(world, readings, question, value[1], value[2])


def _check_question(most, must, never):
    check_wrong(most)
    for name in must:
        if name in never:
            raise AskedBothWays(name)
