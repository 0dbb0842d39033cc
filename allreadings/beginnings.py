"""Which words may come next in a statement: beginnings, whole statements, and the first fault of a text."""

from allreadings.words import DIGITS, is_name, is_unknown, lines

LONGEST_NUMBER = 100

# For each state the words that may come next, each with the state behind it. Words in capitals stand for many
# words, the empty word for the END.
TABLE = {
    "line": (
        ("unknowns", "unknowns"), ("moments", "moments"), ("start", "start left"), ("step", "step"),
        ("steps", "step left"), ("sensor", "sensor"), ("reading", "reading"), ("back", "back"), ("ask", "ask left")),
    "unknowns": (("UNKNOWN", "one unknown"),),
    "one unknown": (("UNKNOWN", "end"), ("", "done")),
    "moments": (("NUMBER", "end"),),
    "step": (("NUMBER", "step moment"),),
    "step moment": ((":", "step left"),),
    "sensor": (("NAME", "sensor name"),),
    "sensor name": ((":", "sum"),),
    "sum": (("-", "sum term"), ("NUMBER", "sum number"), ("UNKNOWN", "sum whole")),
    "sum term": (("NUMBER", "sum number"), ("UNKNOWN", "sum whole")),
    "sum number": (("UNKNOWN", "sum whole"),),
    "sum whole": (("+", "sum term"), ("-", "sum term"), ("slack", "worth")),
    "reading": (("NAME", "reading label"),),
    "reading label": (("NAME", "reading sensor"),),
    "reading sensor": (("at", "reading at"),),
    "reading at": (("NUMBER", "reading moment"),),
    "reading moment": (("=", "signed worth"),),
    "signed worth": (("-", "worth"), ("NUMBER", "worth above")),
    "worth": (("NUMBER", "worth above"),),
    "worth above": (("/", "worth below"), ("", "done")),
    "worth below": (("NUMBER ABOVE 0", "end"),),
    "back": (("NAME", "end"),),
    "end": (("", "done"),),
    "done": (),
    "start left": (("-", "start left term"), ("NUMBER", "start left number"), ("UNKNOWN", "start left whole")),
    "start left term": (("NUMBER", "start left number"), ("UNKNOWN", "start left whole")),
    "start left number": (
        ("UNKNOWN", "start left whole"), ("+", "start left term"), ("-", "start left term"), ("<=", "start right"),
        (">=", "start right"), ("=", "start right")),
    "start left whole": (
        ("+", "start left term"), ("-", "start left term"), ("<=", "start right"), (">=", "start right"),
        ("=", "start right")),
    "start right": (("-", "start right term"), ("NUMBER", "start right number"), ("UNKNOWN", "start right whole")),
    "start right term": (("NUMBER", "start right number"), ("UNKNOWN", "start right whole")),
    "start right number": (
        ("UNKNOWN", "start right whole"), ("+", "start right term"), ("-", "start right term"), ("", "done")),
    "start right whole": (("+", "start right term"), ("-", "start right term"), ("", "done")),
    "step left": (("-", "step left term"), ("NUMBER", "step left number"), ("UNKNOWN", "step left unknown")),
    "step left term": (("NUMBER", "step left number"), ("UNKNOWN", "step left unknown")),
    "step left number": (
        ("UNKNOWN", "step left unknown"), ("+", "step left term"), ("-", "step left term"), ("<=", "step right"),
        (">=", "step right"), ("=", "step right")),
    "step left unknown": (
        ("'", "step left whole"), ("+", "step left term"), ("-", "step left term"), ("<=", "step right"),
        (">=", "step right"), ("=", "step right")),
    "step left whole": (
        ("+", "step left term"), ("-", "step left term"), ("<=", "step right"), (">=", "step right"),
        ("=", "step right")),
    "step right": (("-", "step right term"), ("NUMBER", "step right number"), ("UNKNOWN", "step right unknown")),
    "step right term": (("NUMBER", "step right number"), ("UNKNOWN", "step right unknown")),
    "step right number": (
        ("UNKNOWN", "step right unknown"), ("+", "step right term"), ("-", "step right term"), ("", "done")),
    "step right unknown": (
        ("'", "step right whole"), ("+", "step right term"), ("-", "step right term"), ("", "done")),
    "step right whole": (("+", "step right term"), ("-", "step right term"), ("", "done")),
    "ask left": (("-", "ask left term"), ("NUMBER", "ask left number"), ("UNKNOWN", "ask left unknown")),
    "ask left term": (("NUMBER", "ask left number"), ("UNKNOWN", "ask left unknown")),
    "ask left number": (
        ("UNKNOWN", "ask left unknown"), ("+", "ask left term"), ("-", "ask left term"), ("<=", "ask right"),
        (">=", "ask right")),
    "ask left unknown": (("at", "ask left at"),),
    "ask left at": (("NUMBER", "ask left whole"),),
    "ask left whole": (
        ("+", "ask left term"), ("-", "ask left term"), ("<=", "ask right"), (">=", "ask right")),
    "ask right": (("-", "ask right term"), ("NUMBER", "ask right number"), ("UNKNOWN", "ask right unknown")),
    "ask right term": (("NUMBER", "ask right number"), ("UNKNOWN", "ask right unknown")),
    "ask right number": (
        ("UNKNOWN", "ask right unknown"), ("+", "ask right term"), ("-", "ask right term"), ("", "done")),
    "ask right unknown": (("at", "ask right at"),),
    "ask right at": (("NUMBER", "ask right whole"),),
    "ask right whole": (("+", "ask right term"), ("-", "ask right term"), ("", "done")),
}


def is_beginning(words):
    """Whether the list has the words of the beginning of some statement, or of a whole one, without the END."""
    return _state_behind(words) is not None


def is_statement(words):
    """Whether the list has the words of a whole statement, without the END."""
    state = _state_behind(words)
    return state is not None and _next_state(state, "") is not None


def first_fault(text):
    """The row and the spot of the first wrong word, None if no word is wrong."""
    for at, words in enumerate(lines(text)):
        spot = _wrong_spot(words)
        if spot is not None:
            return (at + 1, spot)
    return None


def is_number(word):
    """Whether a word is a NUMBER."""
    return 1 <= len(word) <= LONGEST_NUMBER and all(letter in DIGITS for letter in word)


def _wrong_spot(words):
    """The spot of the first wrong word of a line, its END included; None if it is a statement, or has only the END."""
    if len(words) == 1:
        return None
    state = "line"
    for spot, word in words:
        state = _next_state(state, word)
        if state is None:
            return spot
    return None


def _state_behind(words):
    """The state behind the words, None if they are no beginning; the empty word is none of a statement's."""
    state = "line"
    for word in words:
        state = _next_state(state, word) if word else None
        if state is None:
            return None
    return state


def _next_state(state, word):
    """The state behind the word, None if the word may not come next."""
    for told, behind in TABLE[state]:
        if _stands_for(told, word):
            return behind
    return None


def _stands_for(told, word):
    """Whether a word of the table stands for the word."""
    if told == "NUMBER":
        return is_number(word)
    if told == "NUMBER ABOVE 0":
        return is_number(word) and int(word) > 0
    if told == "NAME":
        return is_name(word)
    if told == "UNKNOWN":
        return is_unknown(word)
    return told == word
