"""Whether quotients and polynomials are answers: nothing is checked here but that.

Let w be the slope of an answer over itself, t + P' / P. As w' + w w = r, what w is at a point tells what r is there. So
most pairs (t, P) are seen to be none by their shape, before anything is multiplied out.
"""

from twiceslope.exact import from_fraction, weighted_sum
from twiceslope.images import image, least_frame
from twiceslope.parts import ORIGIN, from_rows, number_far, quotient_product, quotient_slope, quotient_sum, trimmed
from twiceslope.spots import order_of


def orders_fit(r, t):
    """Whether each pole of t of an order above 1 is one of r of twice that order: P' / P has simple poles alone."""
    return all([len(row) == 1 or order_of(r, c) == 2 * len(row) for c, row in t[1]])


def sizes_fit(r, t, e):
    """Whether w can be the polynomial of t and e / x far away, by the degree of r and by how many roots there are.

    The polynomial is a root of what r begins with, so each of its numbers is a fraction times one root.
    """
    if len(r[0]) != max(2 * len(t[0]) - 1, 0):
        return False
    return len(e) <= 2 and all([len(number) <= 1 for number in t[0]])


def far_fits(r, t, whole):
    """Whether r has far away the first numbers of w' + w w: P' / P begins with the degree of P over x."""
    degree = from_fraction(len(whole) - 1, 1)
    e = weighted_sum([(row[0], 1, 1) for _, row in t[1]] + [(degree, 1, 1)])
    if not sizes_fit(r, t, e):
        return False
    begun = from_rows(t[0], [ORIGIN], [trimmed([e])])
    told = quotient_sum(quotient_slope(begun), quotient_product(begun, begun))
    k = len(t[0]) - 1
    # Below these powers there are numbers of w that have not been taken.
    return all([number_far(r, at) == number_far(told, at) for at in range(k - 1, max(2 * k, -1) + 1)])


def makes_answer(r, t, whole):
    """Whether a quotient t and a polynomial P are an answer of an equation."""
    if whole == () or not (orders_fit(r, t) and far_fits(r, t, whole)):
        return False
    return image(least_frame(r, t), whole) == ()
