"""Polynomials with integers: lists in which the one at k belongs to x ** k. Nothing is checked here.

A list may have zeros at its end; no function changes a list that it is passed.
"""

from math import gcd


def list_sum(one, other):
    """The sum of two lists."""
    if len(one) < len(other):
        one, other = other, one
    return [one[k] + other[k] for k in range(len(other))] + one[len(other):]


def list_scaled(one, factor):
    """A list times an integer."""
    return [factor * number for number in one]


def list_product(one, other):
    """The product of two lists."""
    if len(one) > len(other):
        one, other = other, one
    total = [0] * max(len(one) + len(other) - 1, 0)
    for k, factor in enumerate(one):
        if factor != 0:
            for at, number in enumerate(other):
                total[k + at] += factor * number
    return total


def list_slope(one):
    """The slope of a list."""
    return [k * one[k] for k in range(1, len(one))]


def list_trimmed(one):
    """A list without the zeros at its end."""
    end = len(one)
    while end > 0 and one[end - 1] == 0:
        end -= 1
    return one[:end]


def content(one):
    """The greatest integer that divides all of a list; 0 if all are 0."""
    common = 0
    for number in one:
        common = gcd(common, number)
    return common


def factor_of(c):
    """The list of bottom * x - top for the pole c."""
    return [-c[0], c[1]]


def list_power(one, exponent):
    """A list to the power of an integer from 0 on."""
    result = [1]
    for _ in range(exponent):
        result = list_product(one, result)
    return result


def factors_product(powers):
    """The product of all (bottom * x - top) ** many for a list of pairs (pole, many)."""
    result = [1]
    for c, many in powers:
        result = list_product(list_power(factor_of(c), many), result)
    return result
