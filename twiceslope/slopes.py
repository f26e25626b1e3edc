"""Answers whose slope over themselves is a quotient, and what bars them."""

from twiceslope.barriers import line_end, weights_bar
from twiceslope.checks import is_tuple_of
from twiceslope.choices import far_choices, outlines, pole_choices
from twiceslope.errors import BadAnswer
from twiceslope.fits import makes_answer
from twiceslope.numbers import is_number
from twiceslope.parts import ZERO, number_at, poles_of, quotient_product, quotient_scaled, quotient_sum
from twiceslope.parts import row_product, row_sum, row_scaled, whole_slope
from twiceslope.points import check_equation, check_pole_of, is_pole_of
from twiceslope.quotients import is_polynomial, is_quotient
from twiceslope.spots import FAR, odd_points

SHUT = "shut"


def choices_at(r, c):
    """The choices at a pole of an equation."""
    check_equation(r)
    check_pole_of(r, c)
    return pole_choices(r, c)


def choices_far(r):
    """The choices far away."""
    check_equation(r)
    return far_choices(r)


def lines(r):
    """The pairs (trunk, count) of all open lines, in their order."""
    check_equation(r)
    return tuple([line for line in outlines(r) if line is not None])


def is_answer(r, thing):
    """Whether any value is an answer (t, P) of an equation."""
    check_equation(r)
    if not (is_tuple_of(thing, 2) and is_quotient(thing[0]) and is_polynomial(thing[1])):
        return False
    return makes_answer(r, thing[0], thing[1])


def judge_slopes(r):
    """A certificate: an answer, or a point or a table that bars all of them."""
    check_equation(r)
    barring = odd_points(r)
    if len(barring) > 0:
        return ("odd", barring[0])
    rows = []
    for line in outlines(r):
        if line is None:
            rows.append(SHUT)
        else:
            whole, _, weights = line_end(r, line[0], line[1])
            if whole is not None:
                return ("answer", line[0], whole)
            rows.append(weights)
    return ("table", tuple(rows))


def odd_holds(r, point):
    """Whether any value is a point whose odd order bars all answers."""
    if not (is_pole_of(r, point) or point == FAR):
        return False
    return point in odd_points(r)


def row_holds(r, line, thing):
    """Whether any value is what a table has to tell of a line."""
    if line is None:
        return thing == SHUT
    if not (isinstance(thing, tuple) and all([is_number(weight) for weight in thing])):
        return False
    return weights_bar(r, line[0], line[1], thing)


def table_holds(r, rows):
    """Whether any value is a table that bars all answers."""
    if not isinstance(rows, tuple) or len(odd_points(r)) > 0:
        return False
    found = outlines(r)
    if len(rows) != len(found):
        return False
    return all([row_holds(r, line, row) for line, row in zip(found, rows)])


def slopes_hold(r, thing):
    """Whether any value is a certificate as judge_slopes tells them."""
    check_equation(r)
    if is_tuple_of(thing, 3) and thing[0] == "answer":
        return is_answer(r, thing[1:])
    if is_tuple_of(thing, 2) and thing[0] == "odd":
        return odd_holds(r, thing[1])
    if is_tuple_of(thing, 2) and thing[0] == "table":
        return table_holds(r, thing[1])
    return False


def touches_pole(r, whole):
    """Whether a polynomial has a pole of an equation as its zero."""
    return any([number_at((whole, ()), c, 0) == () for c in poles_of(r)])


def plain_answers(r):
    """The pair of the plain answers that lines have, and of two answers that are not alike if there are endlessly many.

    The second one is () otherwise.
    """
    found = []
    for line in outlines(r):
        if line is not None:
            trunk, count = line
            whole, others, _ = line_end(r, trunk, count)
            if whole is not None and len(others) > 0:
                return ((), ((trunk, whole), (trunk, row_sum(whole, others[0]))))
            if whole is not None and not touches_pole(r, whole):
                found.append((trunk, whole))
    return (tuple(found), ())


def many_answers(r):
    """How many plain answers an equation has: "none", "one", "two" or "endless"."""
    check_equation(r)
    found, endless = plain_answers(r)
    if endless != ():
        return "endless"
    return ("none", "one", "two")[len(found)]


def answers(r):
    """All plain answers, or two answers that are not alike if there are endlessly many."""
    check_equation(r)
    found, endless = plain_answers(r)
    return found if endless == () else endless


def check_answer(r, thing):
    """Raise BadAnswer for what is no answer of an equation."""
    if not is_answer(r, thing):
        raise BadAnswer(thing)


def crossed(one, other):
    """The quotient P Q (u - t) + P Q' - Q P' of two answers (t, P) and (u, Q)."""
    (t, p), (u, q) = one, other
    apart = quotient_sum(u, quotient_scaled(t, -1, 1))
    cross = row_sum(row_product(whole_slope(q), p), row_scaled(row_product(whole_slope(p), q), -1, 1))
    return quotient_sum(quotient_product(apart, (row_product(p, q), ())), (cross, ()))


def alike(one, other):
    """Whether two answers have the same slope over themselves."""
    return crossed(one, other) == ZERO


def are_alike(r, one, other):
    """Whether two answers of an equation are alike."""
    check_equation(r)
    check_answer(r, one)
    check_answer(r, other)
    return alike(one, other)
