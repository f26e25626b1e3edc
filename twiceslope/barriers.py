"""What a line comes to: its answers, or weights that bar them. Nothing is checked here.

A column is a pair of polynomials, F(P) and P. A staircase is a dict of columns, each one under the length of its F(P).
"""

from twiceslope.exact import ONE, number_inverse, number_product, product_sum, scaled
from twiceslope.images import image, table_frame
from twiceslope.parts import row_product, row_sum


def unit(k):
    """The polynomial x ** k."""
    return ((),) * k + (ONE,)


def less_multiple(row, factor, other):
    """A polynomial less a number times another one."""
    return row_sum(row, row_product((scaled(factor, -1, 1),), other))


def lowered(column, stairs):
    """A column less multiples of those of a staircase, so that none of them has the length of its F(P)."""
    target, source = column
    while len(target) in stairs:
        step, origin = stairs[len(target)]
        factor = number_product(target[-1], number_inverse(step[-1]))
        target = less_multiple(target, factor, step)
        source = less_multiple(source, factor, origin)
    return (target, source)


def staircase(frame, count):
    """The pair of the staircase of all x ** j below the count, and of the polynomials P found whose F(P) is zero."""
    stairs, vanishing = {}, []
    for j in range(count):
        target, source = lowered((image(frame, unit(j)), unit(j)), stairs)
        if target == ():
            vanishing.append(source)
        else:
            stairs[len(target)] = (target, source)
    return (stairs, vanishing)


def weights_against(stairs, place):
    """Weights that give 0 to all F(P) of a staircase, and 1 to x ** place, which is the top of none of them."""
    weights = {place: ONE}
    for length in sorted(stairs):
        step = stairs[length][0]
        total = product_sum([(weights[k], step[k]) for k in weights if k < length])
        if total != ():
            weights[length - 1] = scaled(number_product(total, number_inverse(step[-1])), -1, 1)
    return tuple([weights[k] if k in weights else () for k in range(max(list(weights)) + 1)])


def line_end(r, trunk, count):
    """The triple (P, others, weights) of an open line.

    P is the monic polynomial of the degree count that gives an answer, and others are polynomials of lower degrees
    that may be added to it; or P is None, and the weights bar it.
    """
    frame = table_frame(r, trunk)
    stairs, vanishing = staircase(frame, count)
    target, source = lowered((image(frame, unit(count)), unit(count)), stairs)
    if target == ():
        return (source, vanishing, ())
    return (None, vanishing, weights_against(stairs, len(target) - 1))


def weights_bar(r, trunk, count, weights):
    """Whether weights bar all monic polynomials of the degree count."""
    frame = table_frame(r, trunk)
    told = [weighed(image(frame, unit(j)), weights) for j in range(count + 1)]
    return told[count] != () and all([number == () for number in told[:count]])


def weighed(whole, weights):
    """The sum of the products of the numbers of a polynomial and weights."""
    return product_sum([(whole[k], weights[k]) for k in range(min(len(whole), len(weights)))])
