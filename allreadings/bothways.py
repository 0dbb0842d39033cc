"""Before sets and behind sets made once, for all that is told of some moments by both."""

from allreadings.backwards import behind_sets_from, behind_sums_from, led_on
from allreadings.carrying import carried_sums, shape_sources
from allreadings.forwards import before_sets_to, before_sums, led_back
from allreadings.meets import meet


class BothWays:
    """The before sets up to the last and the behind sets from the first of some moments on."""

    def __init__(self, world, readings, first, last):
        self._world = world
        self._readings = readings
        self._first = first
        self.befores = before_sets_to(world, readings, last)
        self.behinds = behind_sets_from(world, readings, first)
        self._before_sums = None
        self._behind_sums = None

    def shape_at(self, moment):
        """The set."""
        return meet(self.befores[moment], self.behinds[moment])

    def course_at(self, moment, stand):
        """An allowed course with the stand, which is in the set, at the moment."""
        course = led_back(self._world, self.befores, moment, stand)
        return course + led_on(self._world, self.behinds, moment, stand)[1:]

    def sums_at(self, moment):
        """The sums of the set, by ROW LABELS."""
        if self._before_sums is None:
            self._before_sums = before_sums(self._world, self._readings, self.befores)
            self._behind_sums = behind_sums_from(self._world, self._readings, self.behinds, self._first)
        sources = shape_sources(self.befores[moment], self._before_sums[moment])
        sources = sources + shape_sources(self.behinds[moment], self._behind_sums[moment])
        return carried_sums(self._world[0], sources, self.shape_at(moment), 0)
