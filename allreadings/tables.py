"""TABLES of questions with doubted sensors, and what no choice can bar.

A question is the tuple (most, must, never, rows). The rows kept by a choice are told as the list of their places
among the question's rows.
"""

from allreadings.allrows import all_rows, point_course
from allreadings.clashes import follows, is_clash
from allreadings.courses import is_allowed
from allreadings.following import Following
from allreadings.fractions import NOUGHT
from allreadings.points import joined_points
from allreadings.rowsof import broken_rows


def is_choice_of(world, value):
    """Whether any value is a CHOICE."""
    names = [sensor[0] for sensor in world[4]]
    if not isinstance(value, list) or not all(name in names for name in value):
        return False
    return value == sorted(set(value))


def kept_by(readings, choice):
    """The readings kept by the choice."""
    return [reading for reading in readings if reading[1] not in choice]


def blamed_by(world, readings, weights):
    """The choice of the sensors that weights over all rows, and perhaps over further ones, blame."""
    place = _rows_of_world(world)
    blamed = {}
    for reading in readings:
        if weights[place][0] > 0 or weights[place + 1][0] > 0:
            blamed[reading[1]] = True
        place += 2
    return sorted(blamed)


def _rows_of_world(world):
    """How many of all rows are those of the start and of the steps."""
    return len(world[2]) + sum([len(rows) for rows in world[3]])


def question_system(world, readings, rows):
    """The QUESTION'S ROWS."""
    many, told = all_rows(world, readings)
    return (many, told + rows)


class Kept:
    """The question's rows that a choice keeps, and which rows follow from these."""

    def __init__(self, world, readings, rows, choice):
        many, told = question_system(world, readings, rows)
        ahead = _rows_of_world(world)
        self.places = list(range(ahead))
        for place, reading in enumerate(readings):
            if reading[1] not in choice:
                self.places.extend([ahead + 2 * place, ahead + 2 * place + 1])
        self.places.extend(list(range(ahead + 2 * len(readings), len(told))))
        self.many = len(told)
        self.following = Following((many, [told[place] for place in self.places]))

    def clashing_weights(self):
        """Weights for the question's rows that are a clash, None if there are none."""
        return self._spread_out(self.following.clash)

    def weights_of_row(self, row):
        """Weights for the question's rows by which the row follows, None if there are none."""
        return self._spread_out(self.following.weights(row))

    def sums_of_rows(self, rows):
        """The list of such weights for each of the rows, None if one of them does not follow."""
        found = []
        for row in rows:
            weights = self.weights_of_row(row)
            if weights is None:
                return None
            found.append(weights)
        return found

    def _spread_out(self, weights):
        """The weights of the rows kept as weights for all of the question's rows."""
        if weights is None:
            return None
        found = [NOUGHT for _ in range(self.many)]
        for place, weight in zip(self.places, weights):
            found[place] = weight
        return found


def first_level(question):
    """The choices with which a table begins."""
    most, must = question[0], question[1]
    return [list(must)] if len(must) <= most else []


def next_level(question, level, blames):
    """The choices, in sequence, to which equally long ones lead that blame so."""
    most, _, never, _ = question
    found = {}
    for choice, blamed in zip(level, blames):
        for name in blamed:
            if len(choice) < most and name not in never:
                found[tuple(sorted(choice + [name]))] = True
    return [list(choice) for choice in sorted(found)]


def table_of(world, readings, question, goal):
    """("table", table) for the question and the goal; or ("choice", choice, course) if there is none.

    The choice answers by the course, which does not keep the goal.
    """
    table = []
    level = first_level(question)
    while level:
        blames = []
        for choice in level:
            weights, point = _barred(Kept(world, readings, question[3], choice), goal)
            if weights is None:
                return ("choice", choice, point_course(world, point))
            table.append((choice, weights))
            blames.append(blamed_by(world, readings, weights))
        level = next_level(question, level, blames)
    return ("table", table)


def _barred(kept, goal):
    """Weights that are a clash or by which the goal follows, and None; or None and a point that bars neither."""
    weights = kept.clashing_weights()
    if weights is not None:
        return (weights, None)
    if goal is None:
        return (None, kept.following.walk.point())
    weights = kept.weights_of_row(goal)
    return (weights, None) if weights is not None else (None, kept.following.breaking(goal))


def is_table_of(world, readings, question, goal, value):
    """Whether any value is a TABLE of the question and the goal."""
    if not isinstance(value, list) or not all(isinstance(told, tuple) and len(told) == 2 for told in value):
        return False
    if not are_table_choices(world, question, [told[0] for told in value]):
        return False
    system = question_system(world, readings, question[3])
    blames = []
    for choice, weights in value:
        if not is_clash(system, weights) and (goal is None or not follows(system, goal, weights)):
            return False
        blames.append(blamed_by(world, readings, weights))
    return is_closed(question, [told[0] for told in value], blames)


def are_table_choices(world, question, values):
    """Whether any values are choices, unlike and in sequence, each with as many and such names as the question asks."""
    most, must, never, _ = question
    for choice in values:
        if not is_choice_of(world, choice) or len(choice) > most:
            return False
        if not all(name in choice for name in must) or any(name in choice for name in never):
            return False
    placed = [(len(choice), choice) for choice in values]
    return all(placed[k] < placed[k + 1] for k in range(len(placed) - 1))


def is_closed(question, choices, blames):
    """Whether the choices, that blame so, have all choices of a table among them, and none blames one of its own."""
    if not all(choice in choices for choice in first_level(question)):
        return False
    for choice, blamed in zip(choices, blames):
        if any(name in choice for name in blamed):
            return False
        if not all(other in choices for other in next_level(question, [choice], [blamed])):
            return False
    return True


def answers_by(world, readings, question, choice, course):
    """Whether any value choice is a choice that answers the question by any value course."""
    if not are_table_choices(world, question, [choice]):
        return False
    if not is_allowed(world, kept_by(readings, choice), course):
        return False
    return broken_rows((world[0] * world[1], question[3]), joined_points(course)) == []


def paper_in_doubt(world, readings, most, row):
    """A paper of the saying."""
    plain = (most, [], [], [])
    answered = table_of(world, readings, plain, None)
    if answered[0] == "table":
        return ("none", answered[1])
    kept = table_of(world, readings, (most, [], [], [row]), None)
    if kept[0] == "table":
        return ("never", kept[1], answered[1], answered[2])
    broken = table_of(world, readings, plain, row)
    if broken[0] == "table":
        return ("surely", broken[1], kept[1], kept[2])
    return ("perhaps", kept[1], kept[2], broken[1], broken[2])
