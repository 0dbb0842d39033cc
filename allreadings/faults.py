"""The faults of the statements of a text, from left to right."""

from allreadings.comparisons import summed_form
from allreadings.errors import IdleSensor, TakenName, UnknownName, WrongMoment
from allreadings.worlds import MOST_MOMENTS


class Checking:
    """What the statements so far have told, against which the next one is held.

    The names of the unknowns, the number of moments and the sensors may be told behind what uses them; sensed are
    the sensors told so far alone.
    """

    def __init__(self, names, moments, sensors):
        self.unknowns = names
        self.moments = moments
        self.sensors = sensors
        self.frame = {}
        self.sensed = {}
        self.standing = {}

    def check(self, statement):
        """Raise the first fault of the statement, if it has one."""
        kind, row = statement[0], statement[1]
        if kind in ("unknowns", "moments"):
            _take_name(self.frame, kind, row)
            self._check_frame(statement)
        elif kind == "sensor":
            self._check_sensor(statement)
        elif kind == "reading":
            self._check_reading(statement)
        elif kind == "back":
            self._check_back(statement)
        else:
            if kind == "step" and statement[2] >= self.moments - 1:
                raise WrongMoment(statement[2], row)
            for form in (statement[-3], statement[-1]):
                self._check_form(form, row, kind == "ask")

    def _check_frame(self, statement):
        kind, row, told = statement
        if kind == "moments" and not 1 <= told <= MOST_MOMENTS:
            raise WrongMoment(told, row)
        if kind == "unknowns" and len(told) == 2 and told[0] == told[1]:
            raise TakenName(told[1], row)

    def _check_sensor(self, statement):
        _, row, name, form, _ = statement
        _take_name(self.sensed, name, row)
        self._check_form(form, row, False)
        if not any(list(summed_form(form).values())):
            raise IdleSensor(name, row)

    def _check_reading(self, statement):
        _, row, label, sensor, moment, _ = statement
        _take_name(self.standing, label, row)
        if sensor not in self.sensors:
            raise UnknownName(sensor, row)
        self._check_moment(moment, row)

    def _check_back(self, statement):
        _, row, label = statement
        if label not in self.standing:
            raise UnknownName(label, row)
        del self.standing[label]

    def _check_form(self, form, row, is_question):
        """Each unknown, and in a question its moment behind it."""
        for _, name, place in form:
            if name != "" and name not in self.unknowns:
                raise UnknownName(name, row)
            if name != "" and is_question:
                self._check_moment(place, row)

    def _check_moment(self, moment, row):
        if moment >= self.moments:
            raise WrongMoment(moment, row)


def _take_name(taken, name, row):
    """Put the name to those that are taken, unless it is one of them."""
    if name in taken:
        raise TakenName(name, row)
    taken[name] = True


def check_faults(told, names, moments):
    """Raise the first fault in the first of the statements that has one."""
    checking = Checking(names, moments, [statement[2] for statement in told if statement[0] == "sensor"])
    for statement in told:
        checking.check(statement)
