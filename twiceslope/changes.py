"""Changes of equations: a first slope taken away, and the letter changed."""

from twiceslope.checks import all_integers, is_tuple_of
from twiceslope.errors import BadChange, BadEquation
from twiceslope.exact import from_fraction
from twiceslope.forms import check_asked
from twiceslope.moves import bottom_power, placed
from twiceslope.parts import multiples_sum, quotient_product, quotient_scaled, quotient_slope, quotient_sum
from twiceslope.parts import quotient_times
from twiceslope.points import check_equation
from twiceslope.putin import check_form
from twiceslope.quotients import is_equation, is_quotient
from twiceslope.slopes import check_answer, is_answer

LARGEST = 20


def check_plain(p, q):
    """Raise BadEquation with the first one of two things that is no plain quotient."""
    for thing in (p, q):
        if not is_equation(thing):
            raise BadEquation(thing)


def led_from(p, q):
    """The quotient p' / 2 + p p / 4 - q."""
    parts = [(quotient_slope(p), 2), (quotient_product(p, p), 1), (q, -4)]
    return quotient_scaled(multiples_sum(parts), 1, 4)


def led(p, q):
    """The equation without a first slope that is led from p and q."""
    check_plain(p, q)
    return led_from(p, q)


def is_answer_of(p, q, thing):
    """Whether any value is an answer (t, P) of y'' + p y' + q y = 0."""
    check_plain(p, q)
    if not (is_tuple_of(thing, 2) and is_quotient(thing[0])):
        return False
    return is_answer(led_from(p, q), (quotient_sum(thing[0], quotient_scaled(p, 1, 2)), thing[1]))


def carried(p, q, answer):
    """The answer of p and q that an answer of the led equation gives."""
    check_plain(p, q)
    check_answer(led_from(p, q), answer)
    return (quotient_sum(answer[0], quotient_scaled(p, -1, 2)), answer[1])


def determinant(change):
    """The integer a d - b c of a change."""
    a, b, c, d = change
    return a * d - b * c


def is_change(thing):
    """Whether any value is a change."""
    if not (is_tuple_of(thing, 4) and all_integers(thing)):
        return False
    return all([-LARGEST <= number <= LARGEST for number in thing]) and determinant(thing) != 0


def check_change(thing):
    """Raise BadChange for what is no change."""
    if not is_change(thing):
        raise BadChange(thing)


def over_bottom(quotient, change, exponent):
    """A quotient at (a s + b) / (c s + d), times (c s + d) ** exponent."""
    return quotient_product(placed(quotient, change), bottom_power(change, exponent))


def changed(r, change):
    """The changed equation."""
    check_equation(r)
    check_change(change)
    factor = determinant(change)
    return quotient_scaled(over_bottom(r, change, -4), factor * factor, 1)


def changed_form(r, m, u, change):
    """The m-form of the changed equation that an m-form gives."""
    check_asked(r, m)
    check_form(r, m, u)
    check_change(change)
    return over_bottom(u, change, m)


def changed_answer(r, answer, change):
    """The answer of the changed equation that an answer gives, up to a factor."""
    check_equation(r)
    check_answer(r, answer)
    check_change(change)
    t, whole = answer
    degree = len(whole) - 1
    # P at (a s + b) / (c s + d) is a polynomial over (c s + d) ** degree, which goes to the quotient.
    whole_part = over_bottom((whole, ()), change, degree)[0]
    carried_part = quotient_scaled(over_bottom(t, change, -2), determinant(change), 1)
    bottom = quotient_times(bottom_power(change, -1), from_fraction((1 - degree) * change[2], 1))
    return (quotient_sum(carried_part, bottom), whole_part)
