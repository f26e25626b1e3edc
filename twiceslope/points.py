"""The points of an equation: its poles and far away, their orders and exponents."""

from twiceslope.checks import is_integer, is_pole
from twiceslope.errors import BadDegree, BadEquation, BadPoint
from twiceslope.parts import poles_of
from twiceslope.quotients import is_equation
from twiceslope.spots import far_exponents, order_far, order_of, pole_exponents

MOST = 12


def is_degree(thing):
    """Whether any value is a degree: an even integer from 2 to 12."""
    return is_integer(thing) and 2 <= thing <= MOST and thing % 2 == 0


def is_pole_of(r, thing):
    """Whether any value is a pole of an equation."""
    return is_pole(thing) and thing in poles_of(r)


def check_equation(r):
    """Raise BadEquation for what is no equation."""
    if not is_equation(r):
        raise BadEquation(r)


def check_pole_of(r, c):
    """Raise BadPoint for what is no pole of an equation."""
    if not is_pole_of(r, c):
        raise BadPoint(c)


def check_degree(m):
    """Raise BadDegree for what is no degree."""
    if not is_degree(m):
        raise BadDegree(m)


def orders(r):
    """The pairs of a pole and its order, as the poles ascend."""
    check_equation(r)
    return tuple([(c, order_of(r, c)) for c in poles_of(r)])


def far_order(r):
    """The far order of an equation."""
    check_equation(r)
    return order_far(r)


def exponents_at(r, c, m):
    """The exponents for the degree m at the pole c, ascending."""
    check_equation(r)
    check_pole_of(r, c)
    check_degree(m)
    return pole_exponents(r, c, m)


def exponents_far(r, m):
    """The exponents for the degree m far away, ascending."""
    check_equation(r)
    check_degree(m)
    return far_exponents(r, m)
