"""FRACTIONS: tuples of an above and a below, at least 1, without a common divisor but 1."""

from math import gcd, lcm

from allreadings.basics import is_integer, sign_of_integer
from allreadings.errors import DividedByNought, NothingGiven

NOUGHT = (0, 1)
ONE = (1, 1)


def is_fraction(value):
    """Whether any value is a FRACTION."""
    if not isinstance(value, tuple) or len(value) != 2:
        return False
    above, below = value
    return is_integer(above) and is_integer(below) and below >= 1 and gcd(above, below) == 1


def fraction(above, below):
    """Above divided by below, integers of any sign."""
    if below == 0:
        raise DividedByNought()
    divisor = gcd(above, below)
    if below < 0:
        divisor = -divisor
    return (above // divisor, below // divisor)


def whole(number):
    return (number, 1)


def plus(a, b):
    return fraction(a[0] * b[1] + b[0] * a[1], a[1] * b[1])


def minus(a, b):
    return fraction(a[0] * b[1] - b[0] * a[1], a[1] * b[1])


def times(a, b):
    return fraction(a[0] * b[0], a[1] * b[1])


def opposite(a):
    """Nought less a."""
    return (-a[0], a[1])


def over(a, b):
    """a divided by b."""
    return fraction(a[0] * b[1], a[1] * b[0])


def compare(a, b):
    """-1 if a is less, 0 if both are equal, 1 if a is greater."""
    return sign_of_integer(a[0] * b[1] - b[0] * a[1])


def sign_of(a):
    return sign_of_integer(a[0])


def floor_of(a):
    return a[0] // a[1]


def ceiling_of(a):
    return -(-a[0] // a[1])


def least(fractions):
    return _outermost(fractions, -1)


def greatest(fractions):
    return _outermost(fractions, 1)


def _outermost(fractions, side):
    """The first fraction that none passes on the side, -1 down and 1 up."""
    if not fractions:
        raise NothingGiven()
    found = fractions[0]
    for a in fractions:
        if compare(a, found) == side:
            found = a
    return found


def total(fractions):
    """The sum, nought if there are none."""
    numbers, below = over_one_below(fractions)
    return fraction(sum(numbers), below)


def over_one_below(fractions):
    """A list of integers and the least below that stands under all of them."""
    below = 1
    for a in fractions:
        below = lcm(below, a[1])
    return ([a[0] * (below // a[1]) for a in fractions], below)


def worth_text(a):
    """The fraction in digits, without a below of 1."""
    above, below = a
    return str(above) if below == 1 else f"{above}/{below}"
