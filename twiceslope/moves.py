"""Quotients with the letter changed: nothing is checked here.

Each function tells a quotient in s, with x in the place of s. Fractions are pairs (top, bottom).
"""

from math import comb
from twiceslope.exact import ONE, from_fraction, lowest, scaled, weighted_sum
from twiceslope.parts import ORIGIN, from_rows, gap_between, number_at, power, quotient_sum, row_product, trimmed


def stretched(quotient, factor, step):
    """A quotient at factor * s + step, the factor not 0."""
    top, bottom = factor
    shifted = [number_at((quotient[0], ()), step, k) for k in range(len(quotient[0]))]
    whole = tuple([scaled(number, power(top, k), power(bottom, k)) for k, number in enumerate(shifted)])
    tails = [(stretched_pole(c, factor, step), stretched_row(row, factor)) for c, row in quotient[1]]
    return (whole, tuple(tails if top > 0 else tails[::-1]))


def stretched_pole(c, factor, step):
    """The s with which factor * s + step is a pole."""
    high, low = gap_between(c, step)
    return lowest(high * factor[1], low * factor[0])


def stretched_row(row, factor):
    """The row of a pole with each x - c replaced by factor * (s - c)."""
    top, bottom = factor
    return tuple([scaled(number, power(bottom, k + 1), power(top, k + 1)) for k, number in enumerate(row)])


def turned(quotient):
    """A quotient at 1 / s."""
    total = from_rows(trimmed(quotient[0][:1]), [ORIGIN], [quotient[0][1:]])
    for c, row in quotient[1]:
        total = quotient_sum(total, turned_tail(c, row))
    return total


def turned_tail(c, row):
    """What the row of a pole is at 1 / s."""
    if c == ORIGIN:
        return (((),) + row, ())
    top, bottom = lowest(c[1], c[0])
    # With q for 1 / c, each 1 / (1 / s - c) is -q (1 + q / (s - q)).
    numbers = [
        weighted_sum([
            (row[j - 1], (-1 if j % 2 == 1 else 1) * comb(j, i) * power(top, i + j), power(bottom, i + j))
            for j in range(max(i, 1), len(row) + 1)
        ])
        for i in range(len(row) + 1)
    ]
    return from_rows(trimmed(numbers[:1]), [(top, bottom)], [tuple(numbers[1:])])


def placed(quotient, change):
    """A quotient at (a s + b) / (c s + d)."""
    a, b, c, d = change
    if c == 0:
        return stretched(quotient, lowest(a, d), lowest(b, d))
    # (a s + b) / (c s + d) is a / c, and (b c - a d) / (c c) over s + d / c.
    begun = stretched(quotient, lowest(b * c - a * d, c * c), lowest(a, c))
    return stretched(turned(begun), (1, 1), lowest(d, c))


def bottom_power(change, exponent):
    """The quotient (c s + d) ** exponent, for any integer."""
    c, d = change[2:]
    if exponent >= 0:
        return (row_power(trimmed([from_fraction(d, 1), from_fraction(c, 1)]), exponent), ())
    if c == 0:
        return ((from_fraction(1, power(d, -exponent)),), ())
    row = ((),) * (-exponent - 1) + (from_fraction(1, power(c, -exponent)),)
    return ((), ((lowest(-d, c), row),))


def row_power(row, exponent):
    """A polynomial to the power of an integer from 0 on."""
    result = (ONE,)
    for _ in range(exponent):
        result = row_product(row, result)
    return result
