"""Whether quotients and polynomials are answers: nothing is checked here but that.

Let w be the slope of an answer over itself, t + P' / P. As w' + w w = r, what w is at a point tells what r is there. So
most pairs (t, P) are seen to be none by their shape, before anything is multiplied out.
"""

from twiceslope.choices import far_choices
from twiceslope.exact import from_fraction, weighted_sum
from twiceslope.images import image, least_frame
from twiceslope.spots import order_of


def orders_fit(r, t):
    """Whether each pole of t of an order above 1 is one of r of twice that order: P' / P has simple poles alone."""
    return all([len(row) == 1 or order_of(r, c) == 2 * len(row) for c, row in t[1]])


def far_fits(r, t, whole):
    """Whether w is far away like one of the choices there: P' / P begins with the degree of P over x."""
    degree = from_fraction(len(whole) - 1, 1)
    e = weighted_sum([(row[0], 1, 1) for _, row in t[1]] + [(degree, 1, 1)])
    return ((t[0], ()), e) in far_choices(r)


def makes_answer(r, t, whole):
    """Whether a quotient t and a polynomial P are an answer of an equation."""
    if whole == () or not (orders_fit(r, t) and far_fits(r, t, whole)):
        return False
    return image(least_frame(r, t), whole) == ()
