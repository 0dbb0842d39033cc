"""The statements of a text as tuples."""

from allreadings.beginnings import first_fault, is_number
from allreadings.errors import BadText
from allreadings.fractions import fraction, opposite
from allreadings.words import lines

SIGNS = ("<=", ">=", "=")


def statements(text):
    """The list of the statements as tuples."""
    fault = first_fault(text)
    if fault is not None:
        raise BadText(fault[0], fault[1])
    told = []
    for at, line in enumerate(lines(text)):
        words = [word for _, word in line[:-1]]
        if words:
            told.append(_statement(at + 1, words))
    return told


def _statement(row, words):
    """The tuple of a whole statement, told by its words."""
    kind = words[0]
    if kind == "unknowns":
        return (kind, row, words[1:])
    if kind == "moments":
        return (kind, row, int(words[1]))
    if kind == "step":
        return (kind, row, int(words[1])) + _comparison(words[3:])
    if kind == "sensor":
        # The name may be slack, too, but no unknown may.
        end = 3 + words[3:].index("slack")
        return (kind, row, words[1], _form(words[3:end]), _worth(words[end + 1:]))
    if kind == "reading":
        return (kind, row, words[1], words[2], int(words[4]), _worth(words[6:]))
    if kind == "back":
        return (kind, row, words[1])
    return (kind, row) + _comparison(words[1:])


def _comparison(words):
    """The left FORM, the sign and the right FORM."""
    at = [place for place, word in enumerate(words) if word in SIGNS][0]
    return (_form(words[:at]), words[at], _form(words[at + 1:]))


def _form(words):
    """The list of the TERMS."""
    terms, sign, held = [], 1, []
    for word in words:
        if word in ("+", "-"):
            if held:
                terms.append(_term(sign, held))
            sign, held = (1 if word == "+" else -1), []
        else:
            held = held + [word]
    terms.append(_term(sign, held))
    return terms


def _term(sign, words):
    """A TERM, from its words without the sign."""
    number = sign * int(words[0]) if is_number(words[0]) else sign
    named = words[1:] if is_number(words[0]) else words
    if not named:
        return (number, "", 0)
    if len(named) == 1:
        return (number, named[0], 0)
    return (number, named[0], 1 if named[1] == "'" else int(named[2]))


def _worth(words):
    """The FRACTION of a WORTH, or of one with a sign ahead."""
    if words[0] == "-":
        return opposite(_worth(words[1:]))
    return fraction(int(words[0]), int(words[2]) if len(words) > 1 else 1)
