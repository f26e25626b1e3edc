"""Rows of coefficients: answers in powers of x - c."""

from twiceslope.checks import is_pole
from twiceslope.errors import BadPoint
from twiceslope.exact import ONE, number_inverse, number_product, number_sum, product_sum, scaled
from twiceslope.numbers import check_number
from twiceslope.parts import number_at, poles_of, whole_slope
from twiceslope.points import check_equation
from twiceslope.slopes import check_answer


def recurred(r, c, first, second, many):
    """The numbers of the answer that begins with two numbers at a fraction that is no pole."""
    given = [number_at(r, c, k) for k in range(many - 2)]
    found = [first, second]
    for k in range(many - 2):
        total = product_sum([(given[i], found[k - i]) for i in range(k + 1)])
        found.append(scaled(total, 1, (k + 2) * (k + 1)))
    return tuple(found[:many])


def is_free(r, thing):
    """Whether any value is a pair as poles are, and no pole of an equation."""
    return is_pole(thing) and thing not in poles_of(r)


def answer_row(r, c, first, second, many):
    """The row at c of the answer that begins with two numbers: many numbers."""
    check_equation(r)
    if not is_free(r, c):
        raise BadPoint(c)
    check_number(first)
    check_number(second)
    return recurred(r, c, first, second, many)


def value_at(whole, c):
    """What a polynomial is at a fraction."""
    return number_at((whole, ()), c, 0)


def slope_over_itself(answer, c):
    """What the slope of an answer over itself is at a fraction that is no pole and no zero of the answer."""
    t, whole = answer
    ratio = number_product(value_at(whole_slope(whole), c), number_inverse(value_at(whole, c)))
    return number_sum(number_at(t, c, 0), ratio)


def row_of_answer(r, answer, c, many):
    """The row at c of an answer, multiplied so that its first number is 1: many numbers."""
    check_equation(r)
    check_answer(r, answer)
    if not is_free(r, c) or c in poles_of(answer[0]) or value_at(answer[1], c) == ():
        raise BadPoint(c)
    # An answer is known by its first two numbers, so the rest of its row is told by the equation.
    return recurred(r, c, ONE, slope_over_itself(answer, c), many)
