"""Integers, fractions and the form of certificates, and how to reckon with fractions."""

from math import gcd, lcm

from fairqueue.errors import BadMoment, BadNumber

ZERO = (0, 1)


def is_whole(thing):
    """Whether any value is an integer."""
    # Python counts a bool as an int, the package does not.
    return isinstance(thing, int) and not isinstance(thing, bool)


def is_from_one(thing):
    """Whether any value is an integer from 1 on."""
    return is_whole(thing) and thing >= 1


def check_number(number):
    """Raise BadNumber if the value is not an integer from 1 on."""
    if not is_from_one(number):
        raise BadNumber(number)


def is_position(thing, many):
    """Whether any value is the position of one of so many items."""
    return is_whole(thing) and 0 <= thing < many


def do_not_descend(moments):
    """Whether no moment of the list is below the one before it."""
    return moments == sorted(moments)


def has_form(thing, word, many):
    """Whether any value is a tuple of so many items, one or more, whose first one is the word."""
    return isinstance(thing, tuple) and len(thing) == many and thing[0] == word


def is_fraction(thing):
    """Whether any value is a fraction."""
    if not isinstance(thing, tuple) or len(thing) != 2:
        return False
    top, bottom = thing
    if not is_whole(top) or not is_whole(bottom):
        return False
    return bottom > 0 and gcd(top, bottom) == 1


def is_from_zero(thing):
    """Whether any value is a fraction from 0 on."""
    return is_fraction(thing) and thing[0] >= 0


def check_moment(moment):
    """Raise BadMoment if the value is not a fraction from 0 on."""
    if not is_from_zero(moment):
        raise BadMoment(moment)


def fraction(top, bottom):
    """The fraction top / bottom of two integers, the bottom above 0."""
    common = gcd(top, bottom)
    return top // common, bottom // common


def plus(left, right):
    """The sum of two fractions."""
    return fraction(left[0] * right[1] + right[0] * left[1], left[1] * right[1])


def minus(left, right):
    """The difference of two fractions."""
    return fraction(left[0] * right[1] - right[0] * left[1], left[1] * right[1])


def times(factor, whole):
    """The product of a fraction and an integer."""
    return fraction(factor[0] * whole, factor[1])


def over(part, whole):
    """The fraction divided by an integer above 0."""
    return fraction(part[0], part[1] * whole)


def ceiling(top, bottom):
    """The least integer that is not below top / bottom, the bottom above 0."""
    return -(-top // bottom)


def is_below(left, right):
    """Whether the first one of two fractions is the lesser one."""
    return left[0] * right[1] < right[0] * left[1]


def greater(left, right):
    """The greater one of two fractions."""
    return right if is_below(left, right) else left


def least(fractions):
    """The least one of one or more fractions."""
    found = fractions[0]
    for each in fractions:
        if is_below(each, found):
            found = each
    return found


def greatest(fractions):
    """The greatest one of one or more fractions."""
    found = fractions[0]
    for each in fractions:
        found = greater(found, each)
    return found


def ranks(fractions):
    """Integers, one for each of the fractions, that compare as these do."""
    common = 1
    for _, bottom in fractions:
        common = lcm(common, bottom)
    return [top * (common // bottom) for top, bottom in fractions]
