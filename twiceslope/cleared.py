"""Plain parts of quotients, cleared of their poles and denominators. Nothing is checked here."""

from math import lcm
from twiceslope.lists import factor_of, factors_product, list_product, list_sum
from twiceslope.parts import power


def pair_at(number, d):
    """The pair (top, bottom) that the root of d has in a number."""
    for e, top, bottom in number:
        if e == d:
            return (top, bottom)
    return (0, 1)


def roots_within(quotient):
    """All d whose roots the numbers of a quotient have, ascending."""
    rows = [quotient[0]] + [row for _, row in quotient[1]]
    return sorted({triple[0] for row in rows for number in row for triple in number})


def common_bottom(quotient, d):
    """The least common multiple of all bottoms that the root of d has in a quotient."""
    bottom = 1
    for row in [quotient[0]] + [row for _, row in quotient[1]]:
        for number in row:
            bottom = lcm(bottom, pair_at(number, d)[1])
    return bottom


def integers_of(row, d, bottom):
    """The integers that the root of d has in the numbers of a row times a common bottom."""
    pairs = [pair_at(number, d) for number in row]
    return [top * (bottom // low) for top, low in pairs]


def tail_cleared(c, numbers, many):
    """The sum of all number / (x - c) ** j, j from 1 on, times (bottom * x - top) ** many."""
    linear = factor_of(c)
    total = []
    for k, number in enumerate(numbers):
        total = list_sum(list_product(total, linear), [number * power(c[1], k + 1)])
    for _ in range(many - len(numbers)):
        total = list_product(total, linear)
    return total


def cleared(quotient, d, powers):
    """The pair (bottom, list): the part of a quotient at the root of d is list / bottom / the product of the powers.

    The powers are a list of pairs (c, many), which stand for (bottom * x - top) ** many; each pole of the quotient
    is among them, its order being many at most.
    """
    bottom = common_bottom(quotient, d)
    total = list_product(integers_of(quotient[0], d, bottom), factors_product(powers))
    rows = {c: row for c, row in quotient[1]}
    for c, many in powers:
        if c in rows:
            others = factors_product([(pole, height) for pole, height in powers if pole != c])
            tail = tail_cleared(c, integers_of(rows[c], d, bottom), many)
            total = list_sum(total, list_product(tail, others))
    return (bottom, total)
