"""Quotients of polynomials, told as sums of a polynomial and of rows at poles."""

from twiceslope.checks import is_pole, is_tuple_of
from twiceslope.errors import BadPoint, BadQuotient
from twiceslope.numbers import is_fraction, is_number
from twiceslope.parts import ZERO, comes_before, degree_far, least_power, number_at, number_far
from twiceslope.parts import quotient_product, quotient_slope, quotient_sum


def is_polynomial(thing):
    """Whether any value is a polynomial."""
    if not isinstance(thing, tuple):
        return False
    if not all([is_number(number) for number in thing]):
        return False
    return len(thing) == 0 or thing[-1] != ()


def is_tail(thing):
    """Whether any value is a pair of a pole and its row."""
    return is_tuple_of(thing, 2) and is_pole(thing[0]) and is_polynomial(thing[1]) and thing[1] != ()


def are_tails(thing):
    """Whether any value is a tuple of tails whose poles ascend as fractions."""
    if not isinstance(thing, tuple):
        return False
    if not all([is_tail(tail) for tail in thing]):
        return False
    return all([comes_before(thing[k][0], thing[k + 1][0]) for k in range(len(thing) - 1)])


def is_quotient(thing):
    """Whether any value is a quotient."""
    return is_tuple_of(thing, 2) and is_polynomial(thing[0]) and are_tails(thing[1])


def is_equation(thing):
    """Whether any value is a plain quotient."""
    if not is_quotient(thing):
        return False
    rows = [thing[0]] + [row for _, row in thing[1]]
    return all([is_fraction(number) for row in rows for number in row])


def check_quotient(thing):
    """Raise BadQuotient for what is no quotient."""
    if not is_quotient(thing):
        raise BadQuotient(thing)


def plus(one, other):
    """The sum of two quotients."""
    check_quotient(one)
    check_quotient(other)
    return quotient_sum(one, other)


def product(one, other):
    """The product of two quotients."""
    check_quotient(one)
    check_quotient(other)
    return quotient_product(one, other)


def slope(quotient):
    """The slope of a quotient."""
    check_quotient(quotient)
    return quotient_slope(quotient)


def row_at(quotient, c, many):
    """The pair (k, row) at the fraction c: the least power, and the numbers of many powers from it on."""
    check_quotient(quotient)
    if not is_pole(c):
        raise BadPoint(c)
    if quotient == ZERO:
        return (0, ())
    k = least_power(quotient, c)
    return (k, tuple([number_at(quotient, c, k + step) for step in range(many)]))


def row_far(quotient, many):
    """The pair (k, row) far away: the degree far away, and the numbers of many powers from it down."""
    check_quotient(quotient)
    if quotient == ZERO:
        return (0, ())
    k = degree_far(quotient)
    return (k, tuple([number_far(quotient, k - step) for step in range(many)]))
