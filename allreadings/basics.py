"""What an INTEGER and a COUNT are, and small helpers over integers."""

from math import gcd

from allreadings.errors import InvalidMany


def is_integer(value):
    """Whether any value is an INTEGER: True and False are none."""
    return isinstance(value, int) and not isinstance(value, bool)


def is_count(value):
    """Whether any value is a COUNT."""
    return is_integer(value) and value >= 0


def check_many(value, low, high):
    """Raise InvalidMany unless the value is a COUNT from low to high."""
    if not is_count(value) or value < low or value > high:
        raise InvalidMany(value)


def sign_of_integer(number):
    if number > 0:
        return 1
    return -1 if number < 0 else 0


def common_divisor(numbers):
    """The greatest common divisor; 0 if there are only noughts, or none."""
    divisor = 0
    for number in numbers:
        divisor = gcd(divisor, number)
    return divisor


def product_sum(numbers, others):
    """The sum of the products of integers, place by place."""
    return sum([a * b for a, b in zip(numbers, others)])


def is_integers(value, many):
    """Whether any value is a tuple of so many INTEGERS."""
    return isinstance(value, tuple) and len(value) == many and all(is_integer(x) for x in value)


def contrary(numbers):
    """The tuple of the numbers, each times -1."""
    return tuple([-number for number in numbers])
