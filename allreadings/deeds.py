"""What the deeds of a house do and tell.

A state of a house is a tuple (worlds, notes): dicts of a Keeper by name, and of a note by label. A note is a tuple
(name, question, answer, world, readings), the last two those of the time of the answer. A dict that stands is never
changed, and its keepers take nothing more; a deed makes new ones. So the states behind earlier deeds stay as they were.
"""

from allreadings.answering import answer_to, gist, is_question
from allreadings.arrivals import lacking
from allreadings.errors import TakenNote, TakenWorld, TooMany, UnfitAnswer, UnfitQuestion, UnknownNote, UnknownWorld
from allreadings.errors import LimitError, UnlikeWorlds
from allreadings.judging import is_answer
from allreadings.keeping import Keeper, keeper_of
from allreadings.reader import arrivals, read_sheet

MOST_WORLDS = 12
MOST_NOTES = 20


def keeper_in(worlds, name):
    """The keeper of the world with the name."""
    if name not in list(worlds):
        raise UnknownWorld(name)
    return worlds[name]


def note_in(notes, label):
    """The note with the label."""
    if label not in list(notes):
        raise UnknownNote(label)
    return notes[label]


def asked_keeper(worlds, name, question):
    """The keeper of the world with the name, if any value question is a question of this world."""
    keeper = keeper_in(worlds, name)
    if not is_question(keeper.world, question):
        raise UnfitQuestion(question)
    return keeper


def answer_now(keeper, question):
    """An answer to the question for the standing readings."""
    return answer_to(keeper.world, keeper.readings, question)


def status_of(worlds, note):
    """What a note is worth now: "lost", "fresh", "carried" or "stale"."""
    name, question, answer, world, readings = note
    if name not in worlds:
        return "lost"
    keeper = worlds[name]
    if keeper.world == world and keeper.readings == readings:
        return "fresh"
    if not is_question(keeper.world, question):
        return "stale"
    try:
        now = answer_now(keeper, question)
    except LimitError:
        return "stale"
    return "carried" if gist(question, now) == gist(question, answer) else "stale"


def _with_one(held, name, value):
    """The dict with one value more, or with another one in its place."""
    more = dict(held)
    more[name] = value
    return more


def _without_one(held, name):
    return {other: held[other] for other in held if other != name}


def _new(worlds, notes, command):
    _, name, world = command
    if name in worlds:
        raise TakenWorld(name)
    return (_with_one(worlds, name, Keeper(world)), notes, world)


def _read(worlds, notes, command):
    _, name, text = command
    if name in worlds:
        raise TakenWorld(name)
    unknowns, world, _, _ = read_sheet(text)
    return (_with_one(worlds, name, keeper_of(world, arrivals(text))), notes, unknowns)


def _drop(worlds, notes, command):
    _, name = command
    return (_without_one(worlds, name), notes, keeper_in(worlds, name).world)


def _take(worlds, notes, command):
    _, name, arrival = command
    keeper = keeper_in(worlds, name).twin()
    told = keeper.take(arrival)
    return (_with_one(worlds, name, keeper), notes, told)


def _merge(worlds, notes, command):
    _, name, other = command
    keeper, another = keeper_in(worlds, name).twin(), keeper_in(worlds, other)
    if keeper.world != another.world:
        raise UnlikeWorlds(name, other)
    told = lacking(another.log, keeper.log)
    keeper.take_all(told)
    return (_with_one(worlds, name, keeper), notes, told)


def _kept_note(worlds, notes, label, name, question, answer):
    """The state with the note, and its gist."""
    note = (name, question, answer, worlds[name].world, worlds[name].readings)
    return (worlds, _with_one(notes, label, note), gist(question, answer))


def _note(worlds, notes, command):
    _, label, name, question = command
    if label in notes:
        raise TakenNote(label)
    answer = answer_now(asked_keeper(worlds, name, question), question)
    return _kept_note(worlds, notes, label, name, question, answer)


def _attach(worlds, notes, command):
    _, label, name, question, value = command
    if label in notes:
        raise TakenNote(label)
    keeper = asked_keeper(worlds, name, question)
    if not is_answer(keeper.world, keeper.readings, question, value):
        raise UnfitAnswer(value)
    return _kept_note(worlds, notes, label, name, question, value)


def _renew(worlds, notes, command):
    _, label = command
    name, question, _, _, _ = note_in(notes, label)
    answer = answer_now(asked_keeper(worlds, name, question), question)
    return _kept_note(worlds, notes, label, name, question, answer)


def _forget(worlds, notes, command):
    _, label = command
    return (worlds, _without_one(notes, label), note_in(notes, label)[2])


DEEDS = {
    "new": _new,
    "read": _read,
    "drop": _drop,
    "take": _take,
    "merge": _merge,
    "note": _note,
    "attach": _attach,
    "renew": _renew,
    "forget": _forget,
}


def deed_done(state, command):
    """The state behind the deed of a command, and what is told of it."""
    worlds, notes = state
    deed = DEEDS[command[0]]
    worlds, notes, told = deed(worlds, notes, command)
    if len(worlds) > MOST_WORLDS:
        raise TooMany("worlds", MOST_WORLDS)
    if len(notes) > MOST_NOTES:
        raise TooMany("notes", MOST_NOTES)
    return ((worlds, notes), told)
