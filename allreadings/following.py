"""Which rows follow from a system, asked again and again."""

from allreadings.basics import product_sum
from allreadings.fractions import ONE, minus, opposite, over, plus, times, total, whole
from allreadings.points import shifted
from allreadings.rowsof import level_rows, room_at
from allreadings.walk import Walk


class Following:
    """A system whose walk is kept, so that each row asked for goes on from the last one."""

    def __init__(self, system):
        many, rows = system
        self.system = system
        self.walk = Walk(many, rows)
        self.clash = self.walk.settle()
        if self.clash is not None:
            self.walk = Walk(many, level_rows(rows))
            self.walk.settle()

    def weights(self, row):
        """Weights by which the row follows, None if there are none."""
        told = self.walk.top(row[0])
        if told[0] != "worth":
            return None
        if self.clash is not None:
            return self._with_clash(row, told[3])
        above, below = told[1]
        return told[3] if above <= row[1] * below else None

    def breaking(self, row):
        """A point of the system that does not keep the row, None if there is none; of a system with points."""
        told = self.walk.top(row[0])
        if told[0] == "worth":
            above, below = told[1]
            return told[2] if above > row[1] * below else None
        return broken_along(row, told[1], told[2])

    def _with_clash(self, row, weights):
        """The weights, and as much of the clash as brings the most of the sum down to that of the row."""
        rows = self.system[1]
        excess = minus(_sum_of_mosts(rows, weights), whole(row[1]))
        if excess[0] <= 0:
            return weights
        amount = over(excess, opposite(_sum_of_mosts(rows, self.clash)))
        return [plus(a, times(amount, b)) for a, b in zip(weights, self.clash)]


def _sum_of_mosts(rows, weights):
    return total([times(whole(row[1]), weight) for row, weight in zip(rows, weights)])


def broken_along(row, point, drift):
    """A point on the way along the drift, which raises the row's worth, that does not keep the row."""
    room = room_at(row, point)
    if room[0] < 0:
        return list(point)
    amount = plus(over(room, whole(product_sum(row[0], drift))), ONE)
    return shifted(point, drift, amount)
