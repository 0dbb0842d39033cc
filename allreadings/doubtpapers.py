"""Papers of spreads and of sayings with doubted sensors, and their judges."""

from allreadings.allrows import placed_at
from allreadings.basics import is_count
from allreadings.choosing import check_wrong
from allreadings.clashes import follows, is_clash
from allreadings.doubted import spread_told
from allreadings.lots import is_rising
from allreadings.meets import is_within
from allreadings.points import joined_points
from allreadings.rowsof import keeps
from allreadings.setpapers import is_set_paper, plain_set_paper
from allreadings.shapes import is_shape
from allreadings.tables import Kept, answers_by, are_table_choices, blamed_by, first_level, is_closed, is_table_of
from allreadings.tables import kept_by, next_level, paper_in_doubt, question_system
from allreadings.worlds import MOST_SENSORS


def spread_paper(world, readings, most, moment):
    """A SPREAD PAPER for the spread."""
    told = spread_told(world, readings, most, moment)
    inside = [(list(choice), plain_set_paper(world, kept_by(readings, choice), moment)) for _, choice in told]
    question = (most, [], [], [])
    rows = [_rows_at(world, moment, shape) for shape, _ in told]
    found = []
    level = first_level(question)
    while level:
        blames = []
        for choice in level:
            place, sums = _holding(Kept(world, readings, [], choice), rows)
            found.append((choice, place, sums))
            blames.append(_blamed_by_sums(world, readings, sums))
        level = next_level(question, level, blames)
    return ("spread", inside, found)


def _rows_at(world, moment, shape):
    """The rows of the shape, with noughts for the other moments."""
    return [placed_at(world, moment, row) for row in shape[2]]


def _holding(kept, rows):
    """The first place of a shape, told by its rows, that holds the set of the rows kept, and the sums that show it.

    Without a course it is None, and a clash shows it.
    """
    clash = kept.clashing_weights()
    if clash is not None:
        return (None, [clash])
    place, sums = 0, kept.sums_of_rows(rows[0])
    while sums is None:
        place += 1
        sums = kept.sums_of_rows(rows[place])
    return (place, sums)


def _blamed_by_sums(world, readings, sums):
    """The choice of all sensors that any of the sums blames."""
    return sorted(set([name for weights in sums for name in blamed_by(world, readings, weights)]))


def is_spread_paper(world, readings, most, moment, shapes, value):
    """Whether any value is a SPREAD PAPER for any value shapes."""
    check_wrong(most)
    if not isinstance(value, tuple) or len(value) != 3 or value[0] != "spread":
        return False
    if not _are_spread_shapes(world, shapes):
        return False
    _, told, table = value
    if not isinstance(told, list) or len(told) != len(shapes):
        return False
    for shape, pair in zip(shapes, told):
        if not _is_set_of_choice(world, readings, most, moment, shape, pair):
            return False
    return _bars_all_else(world, readings, most, [_rows_at(world, moment, shape) for shape in shapes], table)


def _are_spread_shapes(world, value):
    """Whether any value is a sorted list of shapes of stands, none empty and none contained in another one."""
    # Each shape is the set of a choice of its own, so there are no more of them than choices.
    if not isinstance(value, list) or len(value) > 1 << MOST_SENSORS:
        return False
    if not all(is_shape(shape) and shape[0] == "shape" and shape[1] == world[0] for shape in value):
        return False
    if not is_rising(value):
        return False
    return not any([one != other and is_within(one, other) for one in value for other in value])


def _is_set_of_choice(world, readings, most, moment, shape, value):
    """Whether any value is a tuple of a choice and a set paper of its set, which is the shape."""
    if not isinstance(value, tuple) or len(value) != 2:
        return False
    choice, paper = value
    if not are_table_choices(world, (most, [], [], []), [choice]):
        return False
    return is_set_paper(world, kept_by(readings, choice), moment, shape, paper)


def _bars_all_else(world, readings, most, rows, value):
    """Whether any value is the table that holds the set of each choice within a shape; rows are those of the shapes."""
    if not isinstance(value, list) or not all(isinstance(told, tuple) and len(told) == 3 for told in value):
        return False
    question = (most, [], [], [])
    choices = [told[0] for told in value]
    if not are_table_choices(world, question, choices):
        return False
    system = question_system(world, readings, [])
    if not all(_are_sums(system, rows, place, sums) for _, place, sums in value):
        return False
    return is_closed(question, choices, [_blamed_by_sums(world, readings, sums) for _, _, sums in value])


def _are_sums(system, rows, place, value):
    """Whether any values place and value are the place of a shape and the sums of its rows, or None and a clash."""
    if not isinstance(value, list):
        return False
    if place is None:
        return len(value) == 1 and is_clash(system, value[0])
    if not is_count(place) or place >= len(rows) or len(value) != len(rows[place]):
        return False
    return all(follows(system, row, weights) for row, weights in zip(rows[place], value))


def saying_paper(world, readings, most, row):
    """A paper of the saying."""
    check_wrong(most)
    return paper_in_doubt(world, readings, most, row)


def is_saying_paper(world, readings, most, row, value):
    """Whether any value is a paper of the saying."""
    check_wrong(most)
    if not isinstance(value, tuple) or len(value) not in (2, 4, 5):
        return False
    plain = (most, [], [], [])
    if len(value) == 2:
        return value[0] == "none" and is_table_of(world, readings, plain, None, value[1])
    if not answers_by(world, readings, plain, value[-2], value[-1]):
        return False
    if len(value) == 5:
        if value[0] != "perhaps" or not answers_by(world, readings, plain, value[1], value[2]):
            return False
        return keeps(row, joined_points(value[2])) and not keeps(row, joined_points(value[4]))
    if value[0] == "surely":
        return is_table_of(world, readings, plain, row, value[1])
    return value[0] == "never" and is_table_of(world, readings, (most, [], [], [row]), None, value[1])
