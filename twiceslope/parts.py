"""Quotients that are known to be right: nothing is checked here.

A row is a tuple of numbers, the last one not 0: a polynomial, or the row of a pole.
"""

from math import comb
from twiceslope.exact import add_product, from_totals, lowest, number_sum, product_sum, scaled, weighted_sum

ZERO = ((), ())
ORIGIN = (0, 1)


def trimmed(numbers):
    """The row of a list of numbers, without the zeros at its end."""
    end = len(numbers)
    while end > 0 and numbers[end - 1] == ():
        end -= 1
    return tuple(numbers[:end])


def row_sum(one, other):
    """The sum of two rows."""
    if len(one) < len(other):
        one, other = other, one
    both = [number_sum(one[k], other[k]) for k in range(len(other))]
    return trimmed(both + list(one[len(other):]))


def row_scaled(row, top, bottom):
    """A row times a fraction other than 0."""
    return tuple([scaled(number, top, bottom) for number in row])


def row_product(one, other):
    """The product of two polynomials."""
    totals = [{} for _ in range(len(one) + len(other) - 1)]
    for k in range(len(one)):
        # A zero has no triples, so all products with it may be left out.
        if one[k] != ():
            for at, number in enumerate(other):
                add_product(totals[k + at], one[k], number)
    return trimmed([from_totals(total) for total in totals])


def whole_slope(whole):
    """The slope of a polynomial."""
    return tuple([scaled(whole[k], k, 1) for k in range(1, len(whole))])


def power(base, exponent):
    """An integer to the power of an integer from 0 on."""
    result = 1
    for _ in range(exponent):
        result = result * base
    return result


def comes_before(one, other):
    """Whether a pole is less than another one, as fractions."""
    return one[0] * other[1] < other[0] * one[1]


def gap_between(one, other):
    """The pair of the fraction one - other of two poles."""
    return lowest(one[0] * other[1] - other[0] * one[1], one[1] * other[1])


def poles_of(quotient):
    """The poles of a quotient, ascending as fractions."""
    return [pole for pole, _ in quotient[1]]


def all_poles(one, other):
    """The poles that one or both of two quotients have, ascending as fractions."""
    found = []
    waiting = poles_of(one)
    at = 0
    for pole in poles_of(other):
        while at < len(waiting) and comes_before(waiting[at], pole):
            found.append(waiting[at])
            at += 1
        if at < len(waiting) and waiting[at] == pole:
            at += 1
        found.append(pole)
    return found + waiting[at:]


def row_of_pole(quotient, c):
    """The row of a quotient at a pole; () if c is none of its poles."""
    for pole, row in quotient[1]:
        if pole == c:
            return row
    return ()


def whole_parts(whole, c, k):
    """What a polynomial adds at the power k of x - c, as weighted_sum takes it."""
    top, bottom = c
    return [
        (whole[n], comb(n, k) * power(top, n - k), power(bottom, n - k))
        for n in range(k, len(whole))
    ]


def tail_parts(pole, row, c, k):
    """What the row of another pole adds at the power k of x - c, as weighted_sum takes it."""
    top, bottom = gap_between(c, pole)
    sign = 1 if k % 2 == 0 else -1
    return [
        (row[j - 1], sign * comb(j + k - 1, k) * power(bottom, j + k), power(top, j + k))
        for j in range(1, len(row) + 1)
    ]


def number_at(quotient, c, k):
    """The number that a quotient has at the power k of x - c."""
    if k < 0:
        row = row_of_pole(quotient, c)
        return row[-k - 1] if -k <= len(row) else ()
    parts = whole_parts(quotient[0], c, k)
    for pole, row in quotient[1]:
        if pole != c:
            parts.extend(tail_parts(pole, row, c, k))
    return weighted_sum(parts)


def number_far(quotient, k):
    """The number that a quotient has far away at the power k of x."""
    if k >= 0:
        return quotient[0][k] if k < len(quotient[0]) else ()
    parts = []
    for (top, bottom), row in quotient[1]:
        for j in range(1, min(len(row), -k) + 1):
            parts.append((row[j - 1], comb(-k - 1, j - 1) * power(top, -k - j), power(bottom, -k - j)))
    return weighted_sum(parts)


def least_power(quotient, c):
    """The least power of x - c whose number is not 0, for a quotient other than zero."""
    order = len(row_of_pole(quotient, c))
    if order > 0:
        return -order
    k = 0
    while number_at(quotient, c, k) == ():
        k += 1
    return k


def bound_far(quotient):
    """A power of x, -1 or above, over which all numbers far away are 0."""
    return len(quotient[0]) - 1


def degree_far(quotient):
    """The degree far away of a quotient other than zero."""
    k = bound_far(quotient)
    while number_far(quotient, k) == ():
        k -= 1
    return k


def first_products(ones, others):
    """The first numbers of the product of two rows of powers, as many as each of the two lists tells."""
    return [
        product_sum([(ones[k], others[total - k]) for k in range(total + 1)])
        for total in range(len(ones))
    ]


def product_row(one, other, c):
    """The row at the pole c of the product of two quotients; () if it has no pole there."""
    left, right = len(row_of_pole(one, c)), len(row_of_pole(other, c))
    ones = [number_at(one, c, k) for k in range(-left, right)]
    others = [number_at(other, c, k) for k in range(-right, left)]
    return trimmed(first_products(ones, others)[::-1])


def product_whole(one, other):
    """The polynomial in the product of two quotients."""
    left, right = bound_far(one), bound_far(other)
    many = max(left + right + 1, 0)
    ones = [number_far(one, left - k) for k in range(many)]
    others = [number_far(other, right - k) for k in range(many)]
    return trimmed(first_products(ones, others)[::-1])


def from_rows(whole, poles, rows):
    """The quotient of a polynomial and the rows of ascending poles, some of which may be empty."""
    return (whole, tuple([(pole, row) for pole, row in zip(poles, rows) if row != ()]))


def quotient_sum(one, other):
    """The sum of two quotients."""
    poles = all_poles(one, other)
    rows = [row_sum(row_of_pole(one, c), row_of_pole(other, c)) for c in poles]
    return from_rows(row_sum(one[0], other[0]), poles, rows)


def quotient_product(one, other):
    """The product of two quotients.

    A quotient is known by its numbers at the powers below 0 at each pole and those from 0 on far away; so those of
    the product are taken from the rows of both.
    """
    if one == ZERO or other == ZERO:
        return ZERO
    poles = all_poles(one, other)
    rows = [product_row(one, other, c) for c in poles]
    return from_rows(product_whole(one, other), poles, rows)


def slope_row(row):
    """The row of a pole in the slope of a quotient."""
    return ((),) + tuple([scaled(row[k], -k - 1, 1) for k in range(len(row))])


def quotient_slope(quotient):
    """The slope of a quotient."""
    return (whole_slope(quotient[0]), tuple([(pole, slope_row(row)) for pole, row in quotient[1]]))


def quotient_scaled(quotient, top, bottom):
    """A quotient times a fraction other than 0."""
    tails = [(pole, row_scaled(row, top, bottom)) for pole, row in quotient[1]]
    return (row_scaled(quotient[0], top, bottom), tuple(tails))


def quotient_times(quotient, number):
    """A quotient times a number."""
    return quotient_product(quotient, (trimmed([number]), ()))


def multiples_sum(parts):
    """The sum of quotient * factor for a list of pairs of a quotient and an integer other than 0."""
    total = ZERO
    for quotient, factor in parts:
        total = quotient_sum(total, quotient_scaled(quotient, factor, 1))
    return total
