"""RULINGS on claims, and watches that hear readings one by one until a claim is settled."""

from allreadings.allrows import all_rows, point_course
from allreadings.basics import contrary, is_count
from allreadings.clashes import follows, is_clash
from allreadings.courses import is_allowed
from allreadings.errors import HeardAlready
from allreadings.following import Following, broken_along
from allreadings.fractions import compare, whole
from allreadings.points import is_amounts, joined_points
from allreadings.rowsof import keeps, sum_by_one_below
from allreadings.worlds import copied_world


def ruling(world, readings, claim):
    """The RULING on the claim."""
    following = Following(all_rows(world, readings))
    if following.clash is not None:
        return ("clash", following.clash)
    weights = following.weights(claim)
    if weights is not None:
        return ("surely", weights)
    numbers, most = claim
    opposed = (contrary(numbers), -most)
    told = following.walk.top(opposed[0])
    if told[0] == "endless":
        kept = broken_along(opposed, told[1], told[2])
    else:
        above, below = told[1]
        if above < opposed[1] * below:
            return ("never", told[3])
        kept = told[2]
    return ("open", point_course(world, kept), point_course(world, following.breaking(claim)))


def is_ruling(world, readings, claim, value):
    """Whether any value is a RULING on the claim, as the judge takes it."""
    if not isinstance(value, tuple) or len(value) not in (2, 3):
        return False
    if len(value) == 3:
        word, kept, broken = value
        if word != "open" or not is_allowed(world, readings, kept) or not is_allowed(world, readings, broken):
            return False
        return keeps(claim, joined_points(kept)) and not keeps(claim, joined_points(broken))
    word, weights = value
    system = all_rows(world, readings)
    if word == "clash":
        return is_clash(system, weights)
    if word == "surely":
        return follows(system, claim, weights)
    return word == "never" and _bars(system, claim, weights)


def _bars(system, claim, value):
    """Whether any value is weights by which the rows say that the claim's form is more than its most."""
    if not is_amounts(value, len(system[1])):
        return False
    numbers, most = sum_by_one_below(system, value)
    opposed = [whole(-number) for number in claim[0]]
    return numbers == opposed and compare(most, whole(-claim[1])) < 0


def watched(world, readings, claim):
    """The list of the words at each count of readings heard."""
    return [ruling(world, readings[:many], claim)[0] for many in range(len(readings) + 1)]


def watch_paper(world, readings, claim):
    """A WATCH PAPER."""
    before = None
    for many in range(len(readings) + 1):
        told = ruling(world, readings[:many], claim)
        if told[0] != "open":
            return ("settled", many, told, before)
        before = told
    return ("open", before)


def is_watch_paper(world, readings, claim, value):
    """Whether any value is a WATCH PAPER."""
    if not isinstance(value, tuple) or len(value) not in (2, 4):
        return False
    if len(value) == 2:
        return value[0] == "open" and _is_of_word(world, readings, claim, value[1], True)
    word, many, told, before = value
    if word != "settled" or not is_count(many) or many > len(readings):
        return False
    if not _is_of_word(world, readings[:many], claim, told, False):
        return False
    if many == 0:
        return before is None
    return _is_of_word(world, readings[:many - 1], claim, before, True)


def _is_of_word(world, readings, claim, value, is_open):
    """Whether any value is a ruling whose word is "open", or one whose word is another one."""
    return is_ruling(world, readings, claim, value) and (value[0] == "open") == is_open


class Watch:
    """A claim, and the readings that were heard one by one."""

    def __init__(self, world, claim):
        self._world = copied_world(world)
        self._claim = claim
        self._heard = []

    def hear(self, reading):
        """Hear a reading, and tell the word behind it."""
        if reading[0] in self.heard():
            raise HeardAlready(reading[0])
        self._heard.append(reading)
        return self.word()

    def heard(self):
        """The list of the labels heard, in the sequence of hearing."""
        return [reading[0] for reading in self._heard]

    def word(self):
        """The word of the ruling on what was heard."""
        return self.ruling_now()[0]

    def ruling_now(self):
        """The ruling on what was heard."""
        return ruling(self._world, self._heard, self._claim)

    def paper(self):
        """The watch paper of what was heard."""
        return watch_paper(self._world, self._heard, self._claim)
