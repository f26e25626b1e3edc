"""Orders of equations at their points, and the exponents there: nothing is checked here."""

from math import isqrt
from twiceslope.exact import lowest
from twiceslope.parts import ZERO, degree_far, number_at, number_far, poles_of, row_of_pole

# The far order that the equation of zero has: it has the exponents of those that are small far away.
SMALL = 3
FAR = "far"


def order_of(r, c):
    """The order of an equation at the pole c; 0 if c is none of its poles."""
    return len(row_of_pole(r, c))


def order_far(r):
    """The far order of an equation."""
    return SMALL if r == ZERO else -degree_far(r)


def odd_points(r):
    """The points of an equation that bar all answers by their odd order: poles, or FAR."""
    found = [c for c in poles_of(r) if order_of(r, c) > 1 and order_of(r, c) % 2 == 1]
    if order_far(r) < 2 and order_far(r) % 2 == 1:
        found.append(FAR)
    return found


def square_beside(b):
    """The pair (top, bottom) of the fraction 1 + 4 b, for a number b that is a fraction other than 0."""
    _, top, bottom = b[0]
    return lowest(bottom + 4 * top, bottom)


def exponents_beside(b, m):
    """The exponents for m where the equation is like b over a square."""
    half = m // 2
    top, bottom = square_beside(b)
    if top <= 0:
        return (half,)
    root, low = isqrt(top), isqrt(bottom)
    if root * root != top or low * low != bottom:
        return (half,)
    return tuple([half + j * root // low for j in range(-half, half + 1) if j % low == 0])


def quarter(product):
    """A quarter of an integer as the only exponent, if it is an integer."""
    return (product // 4,) if product % 4 == 0 else ()


def pole_exponents(r, c, m):
    """The exponents for m at a pole of an equation."""
    order = order_of(r, c)
    if order == 1:
        return tuple(range(m + 1))
    if order == 2:
        return exponents_beside(number_at(r, c, -2), m)
    return quarter(m * order)


def far_exponents(r, m):
    """The exponents for m far away."""
    order = order_far(r)
    if order > 2:
        return tuple(range(m + 1))
    if order == 2:
        return exponents_beside(number_far(r, -2), m)
    return quarter(m * order)
