"""VERDICTS on sayings, and when a linear is kept, with their papers and judges."""

from allreadings.allrows import point_course
from allreadings.basics import contrary, is_count
from allreadings.clashes import follows, is_clash
from allreadings.following import Following, broken_along
from allreadings.fractions import compare
from allreadings.greatest import greatest_of
from allreadings.linears import is_known, keeps_linear, keeps_saying, known_rows, linear_row, linears_at
from allreadings.points import is_amounts, is_shares
from allreadings.rowsof import sum_by_one_below
from allreadings.solving import settled


def verdict(world, readings, saying, *, supposed=()):
    """A VERDICT on the saying."""
    following = Following(known_rows(world, readings, supposed=supposed))
    if following.clash is not None:
        return ("clash", following.clash)
    rows = [linear_row(world, linear) for linear in saying[1]]
    if saying[0] == "all":
        return _verdict_on_all(world, following, rows)
    return _verdict_on_any(world, following, rows)


def _verdict_on_all(world, following, rows):
    """A verdict on "all" of the rows, where a course is known."""
    course = point_course(world, following.walk.point())
    paper = [following.weights(row) for row in rows]
    broken = [row for row, weights in zip(rows, paper) if weights is None]
    if not broken:
        return ("surely", paper, course)
    many, known = following.system
    word, told = settled((many, known + rows))
    if word == "clash":
        return ("never", told, course)
    return ("perhaps", point_course(world, told), point_course(world, following.breaking(broken[0])))


def _verdict_on_any(world, following, rows):
    """A verdict on "any" of the rows, where a course is known."""
    many, known = following.system
    # One more unknown is at most what each row is passed by; so all of them are broken where it is above nought.
    widened = [(numbers + (0,), most) for numbers, most in known]
    widened.extend([(contrary(numbers) + (1,), -most) for numbers, most in rows])
    told = greatest_of((many + 1, widened), (0,) * many + (1,))
    if told[0] == "endless":
        point = broken_along(((0,) * many + (1,), 0), told[1], told[2])
    else:
        point = told[2]
        if told[1][0] <= 0:
            weights = told[3]
            return ("surely", (weights[len(known):], weights[:len(known)]), point_course(world, point[:-1]))
    course = point_course(world, point[:-1])
    paper = []
    for row in rows:
        word, found = settled((many, known + [row]))
        if word == "point":
            return ("perhaps", point_course(world, found), course)
        paper.append(found)
    return ("never", paper, course)


def is_verdict(world, readings, saying, value, *, supposed=()):
    """Whether any value is a VERDICT on the saying."""
    if not isinstance(value, tuple) or len(value) not in (2, 3):
        return False
    system = known_rows(world, readings, supposed=supposed)
    if len(value) == 2:
        return value[0] == "clash" and is_clash(system, value[1])
    word, paper, course = value
    if not is_known(world, readings, course, supposed=supposed):
        return False
    if word == "perhaps":
        if not is_known(world, readings, paper, supposed=supposed):
            return False
        return keeps_saying(saying, paper) and not keeps_saying(saying, course)
    rows = [linear_row(world, linear) for linear in saying[1]]
    if word == "surely":
        return _shows_all(system, rows, paper) if saying[0] == "all" else _shows_any(system, rows, paper)
    return word == "never" and _shows_never(system, saying[0], rows, paper)


def _shows_all(system, rows, value):
    """Whether any value is a list of weights by which each of the rows follows."""
    if not isinstance(value, list) or len(value) != len(rows):
        return False
    return all(follows(system, row, weights) for row, weights in zip(rows, value))


def _shows_any(system, rows, value):
    """Whether any value is shares and weights by which the rows, mixed by the shares, follow."""
    if not isinstance(value, tuple) or len(value) != 2:
        return False
    shares, weights = value
    if not is_shares(shares, len(rows)) or not is_amounts(weights, len(system[1])):
        return False
    numbers, most = sum_by_one_below(system, weights)
    mixed_numbers, mixed_most = sum_by_one_below((system[0], rows), shares)
    return numbers == mixed_numbers and compare(most, mixed_most) <= 0


def _shows_never(system, kind, rows, value):
    """Whether any value shows that no known course keeps the rows: all of them together, or each one alone."""
    many, known = system
    if kind == "all":
        return is_clash((many, known + rows), value)
    if not isinstance(value, list) or len(value) != len(rows):
        return False
    return all(is_clash((many, known + [row]), weights) for row, weights in zip(rows, value))


def word_of(world, readings, saying, *, supposed=()):
    """The word of the verdicts on the saying."""
    return verdict(world, readings, saying, supposed=supposed)[0]


def spells(world, readings, numbers, most, *, supposed=()):
    """For each moment the word for the linear AT it alone."""
    linears = linears_at(numbers, most, 0, world[1] - 1)
    return [word_of(world, readings, ("all", [linear]), supposed=supposed) for linear in linears]


def first_surely(world, readings, numbers, most, *, supposed=()):
    """The first moment at which the linear is surely kept, None if there is none."""
    words = spells(world, readings, numbers, most, supposed=supposed)
    return words.index("surely") if "surely" in words else None


def by_paper(world, readings, numbers, most, *, supposed=()):
    """A BY PAPER."""
    course = None
    for moment in range(world[1]):
        saying = ("any", linears_at(numbers, most, 0, moment))
        told = verdict(world, readings, saying, supposed=supposed)
        if told[0] == "clash":
            return told
        if told[0] == "surely":
            return ("by", moment, told, course)
        # The last course of "never" and of "perhaps" breaks the linear at all moments up to this one.
        course = told[2]
    return ("open", course)


def is_by_paper(world, readings, numbers, most, value, *, supposed=()):
    """Whether any value is a BY PAPER."""
    if not isinstance(value, tuple) or len(value) not in (2, 4):
        return False
    if len(value) == 2:
        if value[0] == "clash":
            return is_clash(known_rows(world, readings, supposed=supposed), value[1])
        return value[0] == "open" and _breaks_all(world, readings, numbers, most, world[1], value[1], supposed)
    word, moment, told, course = value
    if word != "by" or not is_count(moment) or moment >= world[1]:
        return False
    if moment == 0 and course is not None:
        return False
    if moment > 0 and not _breaks_all(world, readings, numbers, most, moment, course, supposed):
        return False
    saying = ("any", linears_at(numbers, most, 0, moment))
    return is_verdict(world, readings, saying, told, supposed=supposed) and told[0] == "surely"


def _breaks_all(world, readings, numbers, most, moments, value, supposed):
    """Whether any value is a known course that breaks the linear at each of the first moments, so many."""
    if not is_known(world, readings, value, supposed=supposed):
        return False
    return not any([keeps_linear(linear, value) for linear in linears_at(numbers, most, 0, moments - 1)])


def by_when(world, readings, numbers, most, *, supposed=()):
    """The first moment by which the linear is kept, None if there is none or no course is known."""
    told = by_paper(world, readings, numbers, most, supposed=supposed)
    return told[1] if told[0] == "by" else None
