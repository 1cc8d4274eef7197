"""The kinds of numbers that all modules share."""

from math import gcd


def is_whole(thing):
    """Whether any value is an integer."""
    # Python counts a bool as an int, the package does not.
    return isinstance(thing, int) and not isinstance(thing, bool)


def fraction(top, bottom):
    """The fraction top / bottom of two integers, the bottom above 0."""
    common = gcd(top, bottom)
    return top // common, bottom // common
