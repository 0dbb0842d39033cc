"""The walk over corners: slacks expressed by a few free ones, which change parts by the rule of the least place.

All numbers kept are integers over one below, which is exact because each is a determinant of the rows.
"""

from allreadings.basics import common_divisor, product_sum
from allreadings.fractions import NOUGHT, ONE, fraction, opposite


class Walk:
    """The unknowns of a system, each expressed by free slacks; all other slacks are reckoned from them when needed.

    columns[0] has the constants of the unknowns, columns[k + 1] how often the free slack free[k] is in each of
    them, all times below. A slack stands as the place of its row, an unknown that is itself free as -1 less
    its place.
    """

    def __init__(self, many, rows):
        self.many = many
        self.rows = list(rows)
        self.places = list(range(len(rows)))
        self.below = 1
        self.free = [-1 - k for k in range(many)]
        self.columns = [[0] * many] + [[int(j == k) for j in range(many)] for k in range(many)]

    def copied(self):
        """The same walk apart; no column is ever changed in place, so the columns are shared."""
        other = Walk(0, [])
        other.many = self.many
        other.rows = self.rows
        other.places = list(self.places)
        other.below = self.below
        other.free = list(self.free)
        other.columns = list(self.columns)
        return other

    def settle(self):
        """Walk until no slack is below nought, and return None; or the weights of a tight clash."""
        self._express_unknowns()
        while True:
            place = self._first_broken()
            if place is None:
                return None
            row = self._slack(place)
            column = self._first_raising(row)
            if column is None:
                weights = self._weights_of(row)
                weights[place] = ONE
                return weights
            self._exchange(place, row, column)

    def point(self):
        """The point where all free slacks are nought."""
        return [fraction(number, self.below) for number in self.columns[0]]

    def top(self, numbers):
        """What is told of the GREATEST of a form, once the walk is settled."""
        while True:
            row = [product_sum(numbers, column) for column in self.columns]
            for k, name in enumerate(self.free):
                if name < 0 and row[k + 1] != 0:
                    return ("endless", self.point(), self._drift_along(k + 1, row[k + 1]))
            column = self._first_raising(row)
            if column is None:
                return ("worth", fraction(row[0], self.below), self.point(), self._weights_of(row))
            place = self._first_falling(column, -1, None)
            if place is None:
                return ("endless", self.point(), self._drift_along(column, 1))
            self._exchange(place, self._slack(place), column)

    def fall(self, place):
        """A point at which the slack of place is below nought and no other one; None if there is none.

        Behind None the slack of place is not free.
        """
        if place in self.free:
            column = 1 + self.free.index(place)
            other = self._first_falling(column, 1, place)
            if other is None:
                return self._point_along(column, -1, 1)
            row = self._slack(other)
            if row[0] > 0:
                return self._point_along(column, -row[0], row[column])
            self._exchange(other, row, column)
        while True:
            row = self._slack(place)
            if row[0] < 0:
                return self.point()
            column = self._first_raising([-number for number in row])
            if column is None:
                return None
            other = self._first_falling(column, -1, place)
            if other is None:
                return self._point_along(column, row[0] // -row[column] + 1, 1)
            self._exchange(other, self._slack(other), column)

    def drop(self, place):
        """Leave out the row of a slack that is not free."""
        self.places = [held for held in self.places if held != place]

    def _slack(self, place):
        """The slack expressed by the free ones."""
        numbers, most = self.rows[place]
        row = [-product_sum(numbers, column) for column in self.columns]
        row[0] += self.below * most
        return row

    def _express_unknowns(self):
        for column in range(1, self.many + 1):
            numbers = self.columns[column]
            holding = [place for place in self.places if product_sum(self.rows[place][0], numbers) != 0]
            if holding:
                self._exchange(holding[0], self._slack(holding[0]), column)

    def _first_broken(self):
        """The least place of a slack below nought; free ones are nought."""
        for place in self.places:
            numbers, most = self.rows[place]
            if product_sum(numbers, self.columns[0]) > most * self.below:
                return place
        return None

    def _first_raising(self, row):
        """The column of the free slack of the least place that raises the row."""
        found = [(name, k + 1) for k, name in enumerate(self.free) if name >= 0 and row[k + 1] > 0]
        return min(found)[1] if found else None

    def _first_falling(self, column, side, unheld):
        """The place of the slack that falls to nought first as the free one of the column rises.

        Or, if the side is 1, as it falls; the slack of the place unheld may fall below nought.
        """
        best = None
        for place in self.places:
            numbers, most = self.rows[place]
            fall = side * product_sum(numbers, self.columns[column])
            if fall < 0 and place != unheld and place not in self.free:
                height = most * self.below - product_sum(numbers, self.columns[0])
                if best is None or height * best[1] < best[0] * -fall:
                    best = (height, -fall, place)
        return None if best is None else best[2]

    def _exchange(self, place, row, column):
        """Let the slack of place, with its row, and the free one of a column change parts."""
        size, below = abs(row[column]), self.below
        side = 1 if row[column] > 0 else -1
        turned = self.columns[column]
        columns = []
        for numbers, held in zip(self.columns, row):
            factor = -side * held
            columns.append([(size * a + factor * b) // below for a, b in zip(numbers, turned)])
        columns[column] = [side * b for b in turned]
        self.columns = columns
        self.below = size
        self.free[column - 1] = place

    def _weights_of(self, row):
        """The weights that the free slacks have in a row which none of them raises."""
        weights = [NOUGHT for _ in self.rows]
        for k, name in enumerate(self.free):
            if name >= 0:
                weights[name] = opposite(fraction(row[k + 1], self.below))
        return weights

    def _point_along(self, column, above, under):
        """The point where the free one of the column is above divided by under, and all others are nought."""
        pairs = list(zip(self.columns[0], self.columns[column]))
        return [fraction(a * under + b * above, self.below * under) for a, b in pairs]

    def _drift_along(self, column, side):
        """The drift on which the free one of the column rises, or falls if the side is below 0."""
        numbers = self.columns[column]
        divisor = common_divisor(numbers)
        if side < 0:
            divisor = -divisor
        return tuple([number // divisor for number in numbers])
