"""The SHEET of a text."""

from allreadings.comparisons import linear_of_comparison, rows_of_comparison, summed_form
from allreadings.errors import LackingStatement, LimitError, MissingError, TermError, TooMany
from allreadings.faults import check_faults
from allreadings.parsing import statements
from allreadings.worlds import MOST_READINGS, MOST_SENSORS, MOST_WORLD_ROWS

MOST_QUESTIONS = 30


def read_sheet(text):
    """The text's sheet."""
    return _sheet_of(statements(text))


def is_sheet_text(value):
    """Whether any value is a string that is read without an error."""
    if not isinstance(value, str):
        return False
    try:
        read_sheet(value)
    except (TermError, MissingError, LimitError):
        return False
    return True


def arrivals(text):
    """The list of the readings heard and the labels taken back, in sequence."""
    told = statements(text)
    _sheet_of(told)
    found = []
    for statement in told:
        if statement[0] == "reading":
            found.append(("hear", statement[2:]))
        elif statement[0] == "back":
            found.append(("back", statement[2]))
    return found


def tell_one(first, second):
    """Whether both texts tell the same but for the sequence of rows, sensors, readings and questions."""
    return _in_order(read_sheet(first)) == _in_order(read_sheet(second))


def _in_order(sheet):
    names, (_, moments, start, steps, sensors), readings, linears = sheet
    sorted_steps = [sorted(rows) for rows in steps]
    return (names, moments, sorted(start), sorted_steps, sorted(sensors), sorted(readings), sorted(linears))


def _sheet_of(told):
    """The sheet of statements."""
    names, moments = _first_told(told, "unknowns"), _first_told(told, "moments")
    check_faults(told, names, moments)
    start = _rows_of_kind(told, "start", [(name, 0) for name in names])
    steps = _steps_of(told, names, moments)
    sensors = [_sensor_of_statement(statement, names) for statement in told if statement[0] == "sensor"]
    readings = _standing(told)
    asked = [statement[2:] for statement in told if statement[0] == "ask"]
    for rows in [start] + steps:
        _check_length(rows, "rows", MOST_WORLD_ROWS)
    _check_length(sensors, "sensors", MOST_SENSORS)
    _check_length(readings, "readings", MOST_READINGS)
    _check_length(asked, "questions", MOST_QUESTIONS)
    linears = [linear_of_comparison(left, sign, right, names, moments) for left, sign, right in asked]
    return (list(names), (len(names), moments, start, steps, sensors), readings, linears)


def _first_told(told, word):
    """What the first statement with the word tells."""
    for statement in told:
        if statement[0] == word:
            return statement[2]
    raise LackingStatement(word)


def _rows_of_kind(told, kind, unknowns):
    """The rows of all statements of a kind, in sequence."""
    rows = []
    for statement in told:
        if statement[0] == kind:
            rows.extend(rows_of_comparison(statement[-3], statement[-2], statement[-1], unknowns))
    return rows


def _steps_of(told, names, moments):
    """For each step the rows of its own statements and of those of all steps, in sequence."""
    unknowns = [(name, place) for place in (0, 1) for name in names]
    steps = []
    for moment in range(moments - 1):
        own = [line for line in told if line[0] == "steps" or (line[0] == "step" and line[2] == moment)]
        rows = []
        for line in own:
            rows.extend(rows_of_comparison(line[-3], line[-2], line[-1], unknowns))
        steps.append(rows)
    return steps


def _sensor_of_statement(statement, names):
    _, _, name, form, slack = statement
    numbers = summed_form(form)
    return (name, tuple([numbers.get((unknown, 0), 0) for unknown in names]), slack)


def _standing(told):
    """The readings that are not taken back, in sequence."""
    standing = {}
    for statement in told:
        if statement[0] == "reading":
            standing[statement[2]] = statement[2:]
        elif statement[0] == "back":
            del standing[statement[2]]
    return list(standing.values())


def _check_length(told, what, limit):
    if len(told) > limit:
        raise TooMany(what, limit)
