"""Forms: quotients that are products of answers, where they can be found, and what bars them."""

from twiceslope.checks import is_integer, is_tuple_of
from twiceslope.errors import BadDegree, BadPlace, BadQuotient
from twiceslope.exact import from_fraction
from twiceslope.folds import scale_of
from twiceslope.parts import poles_of
from twiceslope.points import check_degree, check_equation, is_pole_of
from twiceslope.quotients import is_equation, is_quotient
from twiceslope.rooms import bare_points, bounds_of, columns_in, fold_in, forms_in, makes_form, places_bar
from twiceslope.rooms import products_row, stand_alone
from twiceslope.spaces import number_in
from twiceslope.spots import FAR

LAST_PLACE = 300


def check_asked(r, m):
    """Raise BadEquation or BadDegree for what is no equation or no degree."""
    check_equation(r)
    check_degree(m)


def row_of_products(r, m, u):
    """The row of products of a quotient: m + 2 quotients."""
    check_asked(r, m)
    if not is_quotient(u):
        raise BadQuotient(u)
    return products_row(r, m, u)


def is_form(r, m, thing):
    """Whether any value is an m-form of an equation."""
    check_asked(r, m)
    return is_quotient(thing) and makes_form(r, m, thing)


def bounds(r, m):
    """The pair of the least exponents at the poles and of the room; None if some point has no exponent."""
    check_asked(r, m)
    return bounds_of(r, m)


def equation(r, m, j):
    """The numbers that W_0, .., W_D have at x ** j."""
    check_asked(r, m)
    found = bounds_of(r, m)
    if found is None or found[1] < 0:
        raise BadDegree(m)
    if not (is_integer(j) and 0 <= j <= LAST_PLACE):
        raise BadPlace(j)
    fold = fold_in(r, m, found)
    scale = scale_of(r, fold)
    return tuple([from_fraction(number_in(column, j), scale) for column in columns_in(fold, found[1])])


def judge_forms(r, m):
    """A certificate: all forms, or what bars them."""
    check_asked(r, m)
    bare = bare_points(r, m)
    if len(bare) > 0:
        return ("point", bare[0])
    found = bounds_of(r, m)
    if found[1] < 0:
        return ("room", found[1])
    forms, places = forms_in(r, m, found)
    return ("none", places) if forms == () else ("forms", forms, places)


def many_forms(r, m):
    """How many forms there are of which no sum of multiples is zero but with all factors 0."""
    told = judge_forms(r, m)
    return len(told[1]) if told[0] == "forms" else 0


def are_places(thing, many):
    """Whether any value is an ascending tuple of so many integers from 0 on."""
    if not (is_tuple_of(thing, many) and all([is_integer(place) and place >= 0 for place in thing])):
        return False
    return all([thing[k] < thing[k + 1] for k in range(many - 1)])


def told_forms_hold(r, m, found, forms, places):
    """Whether any values are all forms and the places that bar all others."""
    if not isinstance(forms, tuple) or not 0 < len(forms) <= found[1] + 1:
        return False
    if not are_places(places, found[1] + 1 - len(forms)):
        return False
    if not all([is_equation(form) and makes_form(r, m, form) for form in forms]):
        return False
    return stand_alone(forms, poles_of(r)) and places_bar(r, m, found, list(places))


def point_holds(r, m, point):
    """Whether any value is a point that has no exponent for m."""
    if not (is_pole_of(r, point) or point == FAR):
        return False
    return point in bare_points(r, m)


def forms_hold(r, m, thing):
    """Whether any value is a certificate as judge_forms tells them."""
    check_asked(r, m)
    if is_tuple_of(thing, 2) and thing[0] == "point":
        return point_holds(r, m, thing[1])
    found = bounds_of(r, m)
    if found is None:
        return False
    if is_tuple_of(thing, 2) and thing[0] == "room":
        return found[1] < 0 and is_integer(thing[1]) and thing[1] == found[1]
    if found[1] < 0:
        return False
    if is_tuple_of(thing, 2) and thing[0] == "none":
        return are_places(thing[1], found[1] + 1) and places_bar(r, m, found, list(thing[1]))
    if is_tuple_of(thing, 3) and thing[0] == "forms":
        return told_forms_hold(r, m, found, thing[1], thing[2])
    return False
