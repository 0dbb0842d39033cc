"""A HOUSE: worlds with their arrivals, notes of answers, and a log of what was done, to be taken back and redone."""

from allreadings.commands import is_command
from allreadings.copying import copied
from allreadings.deeds import answer_now, asked_keeper, deed_done, keeper_in, note_in, status_of
from allreadings.answering import gist
from allreadings.errors import CommandFailed, InvalidCommand, LimitError, MissingError, NothingToRedo, NothingToUndo
from allreadings.errors import StateError, TermError, TooMany

MOST_DEEDS = 60


class House:
    """The deeds that stand and those taken back, each as its command and the state behind it; and the state now."""

    def __init__(self):
        self._done = []
        self._undone = []
        self._worlds = {}
        self._notes = {}

    @staticmethod
    def again(commands):
        """A house behind all commands of a log."""
        house = House()
        house.do_all(commands)
        return house

    @property
    def names(self):
        """The rising list of the names of the worlds."""
        return sorted(self._worlds)

    @property
    def labels(self):
        """The rising list of the labels of the notes."""
        return sorted(self._notes)

    @property
    def log(self):
        """The commands of the deeds that stand."""
        return [copied(command) for command, _ in self._done]

    def do(self, command):
        """Do any value that is a command; what it tells."""
        if not is_command(command):
            raise InvalidCommand(command)
        return copied(self._told_by(copied(command)))

    def _told_by(self, command):
        """Do a command that nobody else holds; what it tells, which may be shared with what is kept."""
        word = command[0]
        if word == "undo":
            return self._undo()
        if word == "redo":
            return self._redo()
        if word == "told":
            return keeper_in(self._worlds, command[1]).told_at(command[2])
        if word == "ask":
            return answer_now(asked_keeper(self._worlds, command[1], command[2]), command[2])
        state, told = deed_done((self._worlds, self._notes), command)
        if len(self._done) == MOST_DEEDS:
            raise TooMany("deeds", MOST_DEEDS)
        self._done.append((command, state))
        self._undone = []
        self._show_last()
        return told

    def _undo(self):
        if not self._done:
            raise NothingToUndo()
        deed = self._done.pop()
        self._undone.append(deed)
        self._show_last()
        return deed[0]

    def _redo(self):
        if not self._undone:
            raise NothingToRedo()
        deed = self._undone.pop()
        self._done.append(deed)
        self._show_last()
        return deed[0]

    def _show_last(self):
        """Let the state be the one behind the last deed that stands."""
        self._worlds, self._notes = self._done[-1][1] if self._done else ({}, {})

    def do_all(self, commands):
        """Do all commands of a list of any values, or none; the list of what they tell."""
        done, undone = list(self._done), list(self._undone)
        told = []
        for place, command in enumerate(commands):
            try:
                told.append(self.do(command))
            except (TermError, MissingError, StateError, LimitError):
                self._put_back(done, undone)
                raise CommandFailed(place)
        return told

    def _put_back(self, done, undone):
        """Let these deeds stand, and those be taken back."""
        self._done = done
        self._undone = undone
        self._show_last()

    def attempt(self, commands):
        """Do all commands, or none, and leave the house as it was; the list of what they tell."""
        done, undone = list(self._done), list(self._undone)
        told = self.do_all(commands)
        self._put_back(done, undone)
        return told

    def world_at(self, name):
        """The world with the name."""
        return keeper_in(self._worlds, name).world

    def arrivals_at(self, name):
        """The arrivals that came to the world."""
        return keeper_in(self._worlds, name).log

    def readings_at(self, name):
        """The standing readings of the world."""
        return keeper_in(self._worlds, name).readings

    def note(self, label):
        """The name of the note's world, its question, and its answer."""
        return copied(note_in(self._notes, label)[:3])

    def status(self, label):
        """The note's status."""
        return status_of(self._worlds, note_in(self._notes, label))

    def gist_of(self, label):
        """The gist of the note's answer."""
        _, question, answer, _, _ = note_in(self._notes, label)
        return gist(question, answer)
