"""What papers show, reckoned apart with Python's own fractions; and what every judge has to refuse."""

from fractions import Fraction

from allreadings.worlds import sensor_of
from tests.made import STRANGE, changed, exact, with_bools, with_kinds


def sum_apart(system, weights):
    """The numbers and the most of the sum of the rows by weights; None if these are no weights for the rows."""
    many, rows = system
    if len(weights) != len(rows) or any(weight[0] < 0 for weight in weights):
        return None
    numbers = [sum(exact(weight) * row[0][k] for weight, row in zip(weights, rows)) for k in range(many)]
    return numbers, sum((exact(weight) * row[1] for weight, row in zip(weights, rows)), Fraction(0))


def shows_clash(system, weights):
    told = sum_apart(system, weights)
    return told is not None and not any(told[0]) and told[1] < 0


def shows_row(system, row, weights):
    """Whether the row follows by the weights."""
    told = sum_apart(system, weights)
    return told is not None and told[0] == list(row[0]) and told[1] <= row[1]


def worth_apart(numbers, course):
    """The worth of a form over all unknowns at a course."""
    return sum(number * exact(a) for number, a in zip(numbers, [a for stand in course for a in stand]))


def keeps_apart(row, course):
    return worth_apart(row[0], course) <= row[1]


def rows_apart(world, readings):
    """All rows over all unknowns, as bounds of Python's own fractions, not made plain: an independent reckoning."""
    many, moments, start, steps, _ = world
    size = many * moments

    def placed(moment, numbers):
        return [0] * (many * moment) + list(numbers) + [0] * (size - many * moment - len(numbers))
    rows = [(placed(0, numbers), Fraction(most)) for numbers, most in start]
    for moment, step in enumerate(steps):
        rows += [(placed(moment, numbers), Fraction(most)) for numbers, most in step]
    for _, name, moment, worth in readings:
        _, numbers, slack = sensor_of(world, name)
        rows.append((placed(moment, numbers), exact(worth) + exact(slack)))
        rows.append((placed(moment, [-number for number in numbers]), exact(slack) - exact(worth)))
    return rows


def allows_apart(world, readings, course):
    """Whether a list of stands is an allowed course."""
    return all(worth_apart(numbers, course) <= most for numbers, most in rows_apart(world, readings))


def check_refusals(test, judge, paper, is_right, strange=()):
    """Let a judge take a paper, and refuse it with a bool, another kind, or any part changed so that it is not right."""
    test.assertIs(judge(paper), True, paper)
    for value in [*STRANGE, *strange]:
        if value != paper:
            test.assertIs(judge(value), False, value)
    for other in [*with_bools(paper), *with_kinds(paper)]:
        test.assertIs(judge(other), False, other)
    for other in changed(paper):
        told = judge(other)
        test.assertIsInstance(told, bool)
        if told:
            test.assertTrue(is_right(other), other)
