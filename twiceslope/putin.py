"""Answers put in: how they are written down, what stays of two of them, and the equations that their slopes solve."""

from math import factorial
from twiceslope.checks import is_tuple_of
from twiceslope.errors import BadAnswer, BadForm, BadWriting
from twiceslope.exact import ONE, number_inverse, number_product, scaled, whole_number
from twiceslope.forms import check_asked, is_form
from twiceslope.images import clearing_of
from twiceslope.parts import from_rows, multiples_sum, number_at, number_far, poles_of, quotient_product
from twiceslope.parts import quotient_scaled, quotient_slope, quotient_sum, quotient_times, row_product
from twiceslope.points import check_equation
from twiceslope.quotients import are_tails, check_quotient, is_quotient
from twiceslope.rooms import products_row
from twiceslope.slopes import alike, check_answer, crossed

# The degree of the forms that can be squares of products of two answers.
SQUARE_DEGREE = 4


def powers_of(quotient):
    """The pairs (c, e) of all e / (x - c) in a quotient, e other than 0, as the poles ascend."""
    return tuple([(c, row[0]) for c, row in quotient[1] if row[0] != ()])


def integral_row(row):
    """The row of a pole in a quotient of whose slope it has the row, the number at 1 / (x - c) left out."""
    return tuple([scaled(row[k], -1, k) for k in range(1, len(row))])


def integral_whole(whole):
    """The polynomial without a number at x ** 0 that has a polynomial as its slope."""
    return ((),) + tuple([scaled(number, 1, k + 1) for k, number in enumerate(whole)]) if whole != () else ()


def integral_of(quotient):
    """The quotient without a number at x ** 0 of whose slope a quotient is, all e / (x - c) left out."""
    rows = [integral_row(row) for _, row in quotient[1]]
    return from_rows(integral_whole(quotient[0]), poles_of(quotient), rows)


def writing(quotient):
    """The writing of a quotient: the pair (powers, g)."""
    check_quotient(quotient)
    return (powers_of(quotient), integral_of(quotient))


def are_powers(thing):
    """Whether any value is a tuple of pairs (c, e) as the powers of a writing are."""
    if not (isinstance(thing, tuple) and all([is_tuple_of(pair, 2) for pair in thing])):
        return False
    return are_tails(tuple([(c, (e,)) for c, e in thing]))


def is_integral(thing):
    """Whether any value is a quotient without a number at x ** 0."""
    return is_quotient(thing) and (thing[0] == () or thing[0][0] == ())


def quotient_of(powers, g):
    """The quotient that has a writing."""
    if not (are_powers(powers) and is_integral(g)):
        raise BadWriting((powers, g))
    return quotient_sum(((), tuple([(c, (e,)) for c, e in powers])), quotient_slope(g))


def powers_product(powers):
    """The product of all (x - c) ** e for pairs (c, e) whose numbers e are integers."""
    told = [(c, whole_number(e)) for c, e in powers]
    total = (clearing_of([(c, many) for c, many in told if many > 0]), ())
    for c, many in told:
        if many < 0:
            total = quotient_product(total, ((), ((c, ((),) * (-many - 1) + (ONE,)),)))
    return total


def check_unlike(r, one, other):
    """Raise BadEquation or BadAnswer for what are no two answers of an equation that are not alike."""
    check_equation(r)
    check_answer(r, one)
    check_answer(r, other)
    if alike(one, other):
        raise BadAnswer(other)


def times_powers(quotient, one, other):
    """A quotient times E, the product of the powers of the sum of what two answers are e to the integral of."""
    return quotient_product(quotient, powers_product(powers_of(quotient_sum(one[0], other[0]))))


def product_of(r, one, other):
    """The product of two answers that are not alike, a 2-form."""
    check_unlike(r, one, other)
    return times_powers((row_product(one[1], other[1]), ()), one, other)


def stays(r, one, other):
    """The number y z' - z y' of two answers y and z that are not alike, up to the factors that writings leave open."""
    check_unlike(r, one, other)
    return number_far(times_powers(crossed(one, other), one, other), 0)


def check_form(r, m, u):
    """Raise BadForm for what is no m-form of an equation."""
    if not is_form(r, m, u):
        raise BadForm(u)


def equation_of(r, m, u):
    """The equation of the slopes of an m-form: the tuple (c_0, .., c_m)."""
    row = products_row(r, m, u)
    return tuple([
        quotient_scaled(row[i], -1 if i % 2 == 1 else 1, factorial(i))
        for i in range(m, -1, -1)
    ])


def slopes_equation(r, m, u):
    """The equation of the slopes of an m-form."""
    check_asked(r, m)
    check_form(r, m, u)
    return equation_of(r, m, u)


def equation_holds(r, m, thing):
    """Whether any value is the equation of the slopes of an m-form."""
    check_asked(r, m)
    if not (is_tuple_of(thing, m + 1) and all([is_quotient(one) for one in thing])):
        return False
    return is_form(r, m, thing[m]) and equation_of(r, m, thing[m]) == thing


def square_terms(r, u):
    """The quotients u' u', u u'' and r u u."""
    first = quotient_slope(u)
    second = quotient_slope(first)
    return (quotient_product(first, first), quotient_product(u, second), quotient_product(r, quotient_product(u, u)))


def factor_between(told, u):
    """The number by which a quotient other than zero has to be multiplied, if any, to give another one."""
    if u[1] == ():
        k = len(u[0]) - 1
        top, low = number_far(told, k), u[0][k]
    else:
        c, row = u[1][0]
        top, low = number_at(told, c, -len(row)), row[-1]
    return number_product(top, number_inverse(low))


def square_factor(r, u):
    """The number that tells a 4-form to be the square of a product; None if there is none."""
    squares, seconds, products = square_terms(r, u)
    told = multiples_sum([(squares, 3), (seconds, -4), (products, 16)])
    k = factor_between(told, u)
    return k if k != () and quotient_times(u, k) == told else None


def square_number(r, u):
    """The number k with which 3 u' u' - 4 u u'' + 16 r u u is k u; None if there is none other than 0."""
    check_equation(r)
    check_form(r, SQUARE_DEGREE, u)
    return square_factor(r, u)


def square_equation(r, u):
    """The quotients at w ** 0, w and w ** 2 of the equation of the two slopes whose product has u as its square."""
    check_equation(r)
    check_form(r, SQUARE_DEGREE, u)
    if square_factor(r, u) is None:
        raise BadForm(u)
    squares, seconds, products = square_terms(r, u)
    middle = quotient_product(u, quotient_slope(u))
    return (
        multiples_sum([(seconds, 2), (squares, -1), (products, -8)]),
        quotient_scaled(middle, -4, 1),
        quotient_scaled(quotient_product(u, u), 8, 1),
    )
