"""GISTS the plain way: unknowns taken out, and all lots and choices tried one by one."""

from allreadings.allrows import all_rows, placed_at
from allreadings.basics import contrary
from allreadings.choosing import all_choices
from allreadings.clashes import gap_at
from allreadings.conflicts import check_conflict, labels_of, other_lot, readings_of
from allreadings.courses import MOST_UNKNOWNS_TAKEN_OUT, set_at
from allreadings.doubted import outermost_shapes
from allreadings.errors import TooMany
from allreadings.fractions import NOUGHT, compare, whole
from allreadings.linears import known_rows, linear_row, linears_at
from allreadings.lots import least_and_greatest
from allreadings.meets import contains
from allreadings.rowsof import is_false
from allreadings.tables import kept_by
from allreadings.unbounded import left_with
from allreadings.widening import widened


def plain_gist(world, readings, question):
    """The GIST of the answers to the question."""
    if world[0] * world[1] > MOST_UNKNOWNS_TAKEN_OUT:
        raise TooMany("unknowns", MOST_UNKNOWNS_TAKEN_OUT)
    word = question[0]
    if word == "course":
        return "yes" if _leaves_point(all_rows(world, readings)) else "no"
    if word == "set":
        return set_at(world, readings, question[1])
    if word == "stand":
        return "yes" if contains(set_at(world, readings, question[1]), question[2]) else "no"
    if word == "conflicts":
        return _conflicts(world, readings)
    if word == "extra":
        told = _ends_of_last(widened(world, readings))
        return ("none",) if told is None else ("extra", told[0])
    if word in ("sensor", "spread", "said"):
        return _gist_in_doubt(world, readings, question)
    return _gist_supposing(world, known_rows(world, readings, supposed=question[-1]), question)


def _leaves_point(system):
    """Whether the system has points: no row is false when all unknowns are taken out."""
    return not any([is_false(row) for row in left_with(system, [])[1]])


def _ends_of_last(system):
    """The ends of the last unknown when all others are taken out, None if the system has no point."""
    left = left_with(system, [system[0] - 1])
    low, high = gap_at(left, [NOUGHT], 0)
    if any([is_false(row) for row in left[1]]):
        return None
    if low is not None and high is not None and compare(low, high) > 0:
        return None
    return (low, high)


def _with_more(system):
    """The rows with one more unknown behind, which none of them holds."""
    return [(numbers + (0,), most) for numbers, most in system[1]]


def _ends_of_form(system, numbers):
    """The ends of the form, as those of one more unknown that is equal to it; None if the system has no point."""
    equal = [(numbers + (-1,), 0), (contrary(numbers) + (1,), 0)]
    return _ends_of_last((system[0] + 1, _with_more(system) + equal))


def _keeps_all(system, row):
    """Whether all points of a system that has points keep the row."""
    high = _ends_of_form(system, row[0])[1]
    return high is not None and compare(high, whole(row[1])) <= 0


def _conflicts(world, readings):
    """The least lots and the least repairs: the greatest lots that hold leave these."""
    check_conflict(readings)
    labels = labels_of(readings)
    told = least_and_greatest(labels, lambda lot: _leaves_point(all_rows(world, readings_of(readings, lot))))
    return (sorted(told[0]), sorted([other_lot(readings, lot) for lot in told[1]]))


def _gist_in_doubt(world, readings, question):
    """The gist where some sensors may be wrong."""
    word, wrong, asked = question
    choices = all_choices(world, wrong)
    if word == "spread":
        return outermost_shapes([set_at(world, kept_by(readings, choice), asked) for choice in choices])
    fitting = [choice for choice in choices if _leaves_point(all_rows(world, kept_by(readings, choice)))]
    if not fitting:
        return "none"
    if word == "sensor":
        return _word_for([asked in choice for choice in fitting], "wrong", "right", "open")
    systems = [all_rows(world, kept_by(readings, choice)) for choice in fitting]
    if not any([_leaves_point((many, rows + [asked])) for many, rows in systems]):
        return "never"
    return "surely" if all([_keeps_all(system, asked) for system in systems]) else "perhaps"


def _word_for(told, always, never, otherwise):
    """The word for bools that are all True, none, or some."""
    if all(told):
        return always
    return otherwise if any(told) else never


def _gist_supposing(world, system, question):
    """The gist where linears are supposed; system are the known rows."""
    word = question[0]
    if not _leaves_point(system):
        return "clash" if word == "saying" else ("clash",)
    if word == "saying":
        kind, linears = question[1]
        return _word_of_saying(system, kind, [linear_row(world, linear) for linear in linears])
    if word == "peak":
        return _gist_of_peak(world, system, question[1])
    if word == "by":
        rows = [linear_row(world, linear) for linear in linears_at(question[1], question[2], 0, world[1] - 1)]
        for moment in range(world[1]):
            if _keeps_any(system, rows[:moment + 1]):
                return ("by", moment)
        return ("open",)
    numbers = linear_row(world, (question[1], 0))[0]
    low, high = _ends_of_form(system, numbers)
    return ("reach", low, high)


def _gist_of_peak(world, system, numbers):
    """The gist of a least peak: the least worth of one more unknown, at least each moment's form."""
    rows = [(placed_at(world, moment, (numbers, 0))[0] + (-1,), 0) for moment in range(world[1])]
    low = _ends_of_last((system[0] + 1, _with_more(system) + rows))[0]
    return ("endless",) if low is None else ("peak", low)


def _word_of_saying(system, kind, rows):
    """The word of a saying about some rows, where the system has points."""
    many, known = system
    if kind == "all":
        if all([_keeps_all(system, row) for row in rows]):
            return "surely"
        return "perhaps" if _leaves_point((many, known + rows)) else "never"
    if _keeps_any(system, rows):
        return "surely"
    return "perhaps" if any([_leaves_point((many, known + [row])) for row in rows]) else "never"


def _keeps_any(system, rows):
    """Whether all points of a system that has points keep one of the rows at least.

    So one more unknown, at most each form less its most, is never above nought.
    """
    if not rows:
        return False
    least = [(contrary(numbers) + (1,), -most) for numbers, most in rows]
    high = _ends_of_last((system[0] + 1, _with_more(system) + least))[1]
    return high is not None and high[0] <= 0
