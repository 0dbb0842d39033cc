"""Taking unknowns out, the plain way: rounds over rows that each know the given rows of which they are a sum."""

from math import gcd

from allreadings.errors import TooMany
from allreadings.fractions import NOUGHT, ONE, fraction, plus, times
from allreadings.rowsof import MOST_LEFT, is_idle, plain_divisor, plain_row


class Rounds:
    """The rows left, plain, none idle and none twice; ahead holds the rows that were left ahead of each round.

    Each row has a number in the story: what it was divided by, and the rows and counts that were summed up,
    a given row as -1 less its place.
    """

    def __init__(self, many, rows):
        self.many = many
        self.given = len(rows)
        self.story = []
        self.left = {}
        self.ahead = []
        self._keep([(row, [(-1 - place, 1)]) for place, row in enumerate(rows)])

    def run(self, places):
        """Take the unknowns out, until a false row comes; whether one came."""
        for place in places:
            if self.false_row() is not None:
                return True
            self.take_out(place)
            if self.false_row() is None and len(self.left) > MOST_LEFT:
                raise TooMany("rows", MOST_LEFT)
        return self.false_row() is not None

    def false_row(self):
        """The false row if it is left, else None."""
        row = ((0,) * self.many, -1)
        return row if row in self.left else None

    def take_out(self, place):
        """One round: the unknown at place gets the number 0 in all rows."""
        rows = list(self.left)
        self.ahead.append(rows)
        found = [(row, [(self.left[row], 1)]) for row in rows if row[0][place] == 0]
        lowers = [row for row in rows if row[0][place] < 0]
        for upper in [row for row in rows if row[0][place] > 0]:
            for lower in lowers:
                found.append(self._pair(upper, lower, place))
        self._keep(found)

    def weights_of(self, row):
        """The weights over the given rows by which a row left is their sum."""
        weights = [NOUGHT for _ in range(self.given)]
        amounts = {self.left[row]: ONE}
        for at in reversed(range(self.left[row] + 1)):
            if at in amounts:
                divisor, summed = self.story[at]
                for source, count in summed:
                    amount = times(amounts[at], fraction(count, divisor))
                    if source < 0:
                        weights[-1 - source] = plus(weights[-1 - source], amount)
                    else:
                        amounts[source] = plus(amounts.get(source, NOUGHT), amount)
        return weights

    def _pair(self, upper, lower, place):
        common = gcd(upper[0][place], lower[0][place])
        up, down = -lower[0][place] // common, upper[0][place] // common
        numbers = tuple([up * a + down * b for a, b in zip(upper[0], lower[0])])
        row = (numbers, up * upper[1] + down * lower[1])
        return (row, [(self.left[upper], up), (self.left[lower], down)])

    def _keep(self, found):
        left = {}
        for row, summed in found:
            plain = plain_row(row)
            if not is_idle(plain) and plain not in left:
                left[plain] = len(self.story)
                self.story.append((plain_divisor(row), summed))
        self.left = left
