"""Choices at the points of an equation, and lines of them: nothing is checked here."""

from twiceslope.exact import ONE, number_difference, number_inverse, number_product
from twiceslope.exact import product_sum, scaled, weighted_sum, whole_number
from twiceslope.numbers import root_of
from twiceslope.parts import ZERO, degree_far, from_rows, number_at, number_far, poles_of, row_of_pole
from twiceslope.parts import row_scaled, trimmed
from twiceslope.spots import order_of, square_beside


def root_of_fraction(number):
    """The root of a number other than 0 that is a fraction."""
    _, top, bottom = number[0]
    return root_of(top, bottom)


def square_choices(b):
    """The choices where the equation is like b over a square."""
    top, bottom = square_beside(b)
    root = root_of(top, bottom)
    signs = (1, -1) if root != () else (1,)
    return tuple([(ZERO, weighted_sum([(ONE, 1, 2), (root, sign, 2)])) for sign in signs])


def root_row(numbers):
    """The pair (row, b) of a list of numbers, from the highest power down.

    The square of the row has all of them but the last one, and b is what the last one is above that of the square.
    """
    row = [root_of_fraction(numbers[0])]
    half = scaled(number_inverse(row[0]), 1, 2)
    last = len(numbers) - 1
    for k in range(1, last):
        row.append(number_product(half, without_inner(numbers[k], row, k)))
    return (row, without_inner(numbers[last], row, last))


def without_inner(number, row, k):
    """A number less the products of those of a row whose places, neither of them 0, add up to k."""
    inner = product_sum([(row[p], row[k - p]) for p in range(1, k)])
    return number_difference(number, inner)


def even_pole_choices(r, c, k):
    """The choices at a pole of the order 2 k, k from 2 on."""
    row, b = root_row([number_at(r, c, power) for power in range(-2 * k, -k)])
    ratio = number_product(b, number_inverse(row[0]))
    tail = ((),) + tuple(row[::-1])
    return tuple([
        (((), ((c, row_scaled(tail, sign, 1)),)), weighted_sum([(ONE, k, 2), (ratio, sign, 2)]))
        for sign in (1, -1)
    ])


def even_far_choices(r, k):
    """The choices far away where the degree there is 2 k, k from 0 on."""
    row, b = root_row([number_far(r, 2 * k - step) for step in range(k + 2)])
    ratio = number_product(b, number_inverse(row[0]))
    whole = tuple(row[::-1])
    return tuple([
        ((row_scaled(whole, sign, 1), ()), weighted_sum([(ratio, sign, 2), (ONE, -k, 2)]))
        for sign in (1, -1)
    ])


def pole_choices(r, c):
    """The choices at a pole of an equation."""
    order = order_of(r, c)
    if order == 1:
        return ((ZERO, ONE),)
    if order == 2:
        return square_choices(number_at(r, c, -2))
    if order % 2 == 0:
        return even_pole_choices(r, c, order // 2)
    return ()


def far_choices(r):
    """The choices far away."""
    if r == ZERO or degree_far(r) < -2:
        return ((ZERO, ()), (ZERO, ONE))
    degree = degree_far(r)
    if degree == -2:
        return square_choices(number_far(r, -2))
    if degree % 2 == 0:
        return even_far_choices(r, degree // 2)
    return ()


def all_lines(r):
    """The lines in their order: tuples of choices, the one far away last."""
    found = [()]
    for choices in [pole_choices(r, c) for c in poles_of(r)] + [far_choices(r)]:
        found = [line + (choice,) for line in found for choice in choices]
    return found


def count_of(line):
    """The count of a line, if the line is open; None otherwise."""
    total = line[-1][1]
    for _, e in line[:-1]:
        total = number_difference(total, e)
    count = whole_number(total)
    return count if count is not None and count >= 0 else None


def trunk_of(r, line):
    """The trunk of an open line."""
    poles = poles_of(r)
    rows = []
    for c, (part, e) in zip(poles, line):
        tail = row_of_pole(part, c)
        rows.append(trimmed((e,) + tail[1:]))
    return from_rows(line[-1][0][0], poles, rows)


def outlines(r):
    """What each line comes to, in their order: the pair (trunk, count) of an open one, None for another one."""
    counts = [(line, count_of(line)) for line in all_lines(r)]
    return [(trunk_of(r, line), count) if count is not None else None for line, count in counts]
