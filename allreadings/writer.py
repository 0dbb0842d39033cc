"""SHEETS as written texts."""

from allreadings.errors import TooMany
from allreadings.fractions import worth_text
from allreadings.reader import read_sheet

MOST_DIGITS = 100


def form_text(names, numbers):
    """The FORM of one moment, with a number for each of the names."""
    return _sum_text([(number, name) for name, number in zip(names, numbers)])


def statement_texts(sheet):
    """The list of the statements as written."""
    names, (_, moments, start, steps, sensors), readings, linears = sheet
    texts = ["unknowns " + " ".join(names), f"moments {moments}"]
    texts.extend(["start " + _row_text(names, row) for row in start])
    both = names + [name + "'" for name in names]
    for moment, rows in enumerate(steps):
        texts.extend([f"step {moment}: {_row_text(both, row)}" for row in rows])
    for name, numbers, slack in sensors:
        texts.append(f"sensor {name}: {form_text(names, numbers)} slack {_worth_text(slack)}")
    for label, sensor, moment, worth in readings:
        texts.append(f"reading {label} {sensor} at {moment} = {_worth_text(worth)}")
    texts.extend(["ask " + _question_text(names, linear) for linear in linears])
    return texts


def write_sheet(sheet):
    """The statements as written, joined by line feeds."""
    return "\n".join(statement_texts(sheet))


def tidy_text(text):
    """The text's sheet, written."""
    return write_sheet(read_sheet(text))


def _row_text(unknowns, row):
    return _sum_text([(number, unknown) for unknown, number in zip(unknowns, row[0])]) + _most_text(row[1])


def _question_text(names, linear):
    parts, most = linear
    terms = []
    for moment, numbers in parts:
        terms.extend([(number, f"{name} at {moment}") for name, number in zip(names, numbers)])
    return _sum_text(terms) + _most_text(most)


def _most_text(most):
    _check_digits(most)
    return f" <= {most}"


def _sum_text(terms):
    """The FORM of the terms, each a number and an unknown, without those whose number is 0."""
    text = ""
    for number, unknown in terms:
        if number != 0:
            _check_digits(number)
            size = unknown if abs(number) == 1 else f"{abs(number)} {unknown}"
            if text:
                text = text + (" - " if number < 0 else " + ") + size
            else:
                text = "-" + size if number < 0 else size
    return text if text else "0"


def _worth_text(worth):
    _check_digits(worth[0])
    _check_digits(worth[1])
    return worth_text(worth)


def _check_digits(number):
    # A hundred digits are the most that a NUMBER of a text has; 10 to the power of 100 has one more.
    if abs(number) >= 10 ** 50 * 10 ** 50:
        raise TooMany("digits", MOST_DIGITS)
