"""Fractions: pairs of integers in lowest terms, the bottom above 0."""

from math import gcd

from threemoods.checks import is_integer

ZERO = (0, 1)
# All numbers from 1 to 10 divide it; the bottom of a speed is at most the length of a ring.
FINEST = 2520


def lowest(top, bottom):
    """The fraction top by bottom, which is above 0, in lowest terms."""
    common = gcd(top, bottom)
    return top // common, bottom // common


def is_fraction(value):
    """Whether a value is a fraction."""
    if not isinstance(value, tuple) or len(value) != 2:
        return False
    top, bottom = value
    if not is_integer(top) or not is_integer(bottom):
        return False
    return bottom > 0 and gcd(top, bottom) == 1


def are_fractions(value, many):
    """Whether a value is a tuple of so many fractions."""
    if not isinstance(value, tuple) or len(value) != many:
        return False
    return all([is_fraction(item) for item in value])


def size_of(pace):
    """A number that is the greater the greater a speed is."""
    return pace[0] * (FINEST // pace[1])


def is_at_most(count, pace, high, low):
    """Whether an integer is at most a fraction, pace, and another less a third."""
    added = pace[0] * high[1] * low[1] + high[0] * pace[1] * low[1]
    taken = low[0] * pace[1] * high[1]
    return count * pace[1] * high[1] * low[1] <= added - taken
