"""COMMANDS of a house."""

from allreadings.basics import is_count
from allreadings.words import is_name
from allreadings.worlds import is_world

# What stands behind the word of a command.
PARTS = {
    "new": ("name", "world"),
    "read": ("name", "text"),
    "drop": ("name",),
    "take": ("name", "any"),
    "merge": ("name", "name"),
    "note": ("name", "name", "any"),
    "attach": ("name", "name", "any", "any"),
    "renew": ("name",),
    "forget": ("name",),
    "told": ("name", "moment"),
    "ask": ("name", "any"),
    "undo": (),
    "redo": (),
}


def is_command(value):
    """Whether any value is a COMMAND."""
    if not isinstance(value, tuple) or not value or not isinstance(value[0], str) or value[0] not in PARTS:
        return False
    kinds = PARTS[value[0]]
    if len(value) != 1 + len(kinds):
        return False
    return all(_is_part(kind, part) for kind, part in zip(kinds, value[1:]))


def _is_part(kind, value):
    """Whether any value may stand in a command as a part of the kind."""
    if kind == "name":
        return is_name(value)
    if kind == "world":
        return is_world(value)
    if kind == "text":
        return isinstance(value, str)
    return kind == "any" or is_count(value)


def is_deed(command):
    """Whether the COMMAND is that of a deed."""
    return command[0] not in ("told", "ask", "undo", "redo")
