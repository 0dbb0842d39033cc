"""All errors of the package, those of its later parts too."""


class TermError(ValueError):
    """A value that cannot stand where it was put."""


class InvalidMany(TermError):
    """A number that is not a COUNT within the bounds told for it."""

    def __init__(self, value):
        self.value = value


class AskedBothWays(TermError):
    """A name that is asked for both as one thing and as its contrary."""

    def __init__(self, name):
        self.name = name


class BadText(TermError):
    """The first wrong word of a text, by its row from 1 and its spot from 0."""

    def __init__(self, row, spot):
        self.row = row
        self.spot = spot


class CrossedBounds(TermError):
    """A low bound that is greater than the high one."""

    def __init__(self):
        pass


class DividedByNought(TermError):
    """A division by nought."""

    def __init__(self):
        pass


class EarlierMoment(TermError):
    """A later moment that is less than the moment."""

    def __init__(self, moment, later):
        self.moment = moment
        self.later = later


class IdleSensor(TermError):
    """A sensor whose numbers all come to 0."""

    def __init__(self, name, row):
        self.name = name
        self.row = row


class InvalidArrival(TermError):
    """A value that is no ARRIVAL."""

    def __init__(self, value):
        self.value = value


class InvalidCommand(TermError):
    """A value that is no COMMAND."""

    def __init__(self, value):
        self.value = value


class InvalidLetter(TermError):
    """A value that is no LETTER."""

    def __init__(self, value):
        self.value = value


class NoDirection(TermError):
    """Fractions that are all nought, or none, and so have no direction."""

    def __init__(self):
        pass


class TakenName(TermError):
    """A name that an earlier statement of a text has."""

    def __init__(self, name, row):
        self.name = name
        self.row = row


class TwiceLabel(TermError):
    """A label that stands twice."""

    def __init__(self, label):
        self.label = label


class UnevenPoint(TermError):
    """A point that cannot be cut into points of so many numbers."""

    def __init__(self, many):
        self.many = many


class UnfitAnswer(TermError):
    """A value that is no ANSWER to a question."""

    def __init__(self, value):
        self.value = value


class UnfitQuestion(TermError):
    """A value that is no QUESTION of a world."""

    def __init__(self, value):
        self.value = value


class UnlikeMany(TermError):
    """Two numbers of unknowns that should be equal."""

    def __init__(self, many, other):
        self.many = many
        self.other = other


class UnlikeWorlds(TermError):
    """Two names whose worlds should be equal."""

    def __init__(self, name, other):
        self.name = name
        self.other = other


class WrongMoment(TermError):
    """A moment in a text that its world does not have."""

    def __init__(self, moment, row):
        self.moment = moment
        self.row = row


class MissingError(LookupError):
    """Something asked for that is not there."""


class LackingStatement(MissingError):
    """A text without a statement that begins with the word."""

    def __init__(self, word):
        self.word = word


class MissingMoment(MissingError):
    """A moment that a world does not have."""

    def __init__(self, moment):
        self.moment = moment


class MissingSensor(MissingError):
    """A sensor that a world does not have."""

    def __init__(self, name):
        self.name = name


class NothingGiven(MissingError):
    """An empty list where at least one thing is needed."""

    def __init__(self):
        pass


class StrangeLabel(MissingError):
    """A label that none of the readings has."""

    def __init__(self, label):
        self.label = label


class TooFewPairs(MissingError):
    """Fewer pairs than are asked for."""

    def __init__(self, many):
        self.many = many


class UnknownDesk(MissingError):
    """A desk that is not there."""

    def __init__(self, name):
        self.name = name


class UnknownLabel(MissingError):
    """A label that is not known."""

    def __init__(self, label):
        self.label = label


class UnknownName(MissingError):
    """A name in a text that no statement tells."""

    def __init__(self, name, row):
        self.name = name
        self.row = row


class UnknownNote(MissingError):
    """A note that is not there."""

    def __init__(self, label):
        self.label = label


class UnknownWorld(MissingError):
    """A world that is not there."""

    def __init__(self, name):
        self.name = name


class StateError(RuntimeError):
    """Something that cannot be done as things stand."""


class CannotBeRead(StateError):
    """Worths that no allowed course can have read."""

    def __init__(self):
        pass


class CommandFailed(StateError):
    """The place of the command in a list that could not be done."""

    def __init__(self, place):
        self.place = place


class HeardAlready(StateError):
    """A label that was heard before."""

    def __init__(self, label):
        self.label = label


class NoCourse(StateError):
    """A world and readings that allow no course."""

    def __init__(self):
        pass


class NotLeast(StateError):
    """A lot that is not a least one."""

    def __init__(self, lot):
        self.lot = lot


class NothingToRedo(StateError):
    """No deed was taken back last."""

    def __init__(self):
        pass


class NothingToUndo(StateError):
    """No deed stands."""

    def __init__(self):
        pass


class TakenLabel(StateError):
    """A label that another reading has."""

    def __init__(self, label):
        self.label = label


class TakenNote(StateError):
    """A label that a note has already."""

    def __init__(self, label):
        self.label = label


class TakenWorld(StateError):
    """A name that a world has already."""

    def __init__(self, name):
        self.name = name


class LimitError(ArithmeticError):
    """More than a limit that is told."""


class TooMany(LimitError):
    """More of something than its limit."""

    def __init__(self, what, limit):
        self.what = what
        self.limit = limit
