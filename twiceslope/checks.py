"""Checks of the kinds of values that all parts of the package share."""

from math import gcd


def is_integer(thing):
    """Whether any value is an integer: True and False are none."""
    return isinstance(thing, int) and not isinstance(thing, bool)


def is_tuple_of(thing, many):
    """Whether any value is a tuple with so many items."""
    return isinstance(thing, tuple) and len(thing) == many


def all_integers(things):
    """Whether all items of a tuple are integers."""
    return all([is_integer(thing) for thing in things])


def in_lowest_terms(top, bottom):
    """Whether two integers are a fraction as it is written in just one way."""
    return bottom >= 1 and gcd(top, bottom) == 1


def is_pole(thing):
    """Whether any value is a pair (top, bottom) as poles are."""
    return is_tuple_of(thing, 2) and all_integers(thing) and in_lowest_terms(thing[0], thing[1])
