"""Where forms can be found: bounds, columns, and the forms themselves. Nothing is checked here."""

from twiceslope.cleared import cleared, roots_within
from twiceslope.exact import ONE, from_fraction
from twiceslope.folds import fold_of, folded
from twiceslope.lists import factors_product, list_product, list_trimmed
from twiceslope.parts import poles_of, quotient_product, quotient_scaled, quotient_slope, quotient_sum, row_of_pole
from twiceslope.spaces import solved
from twiceslope.spots import FAR, far_exponents, pole_exponents


def bare_points(r, m):
    """The points of an equation that have no exponent for m: poles, or FAR."""
    found = [c for c in poles_of(r) if pole_exponents(r, c, m) == ()]
    if far_exponents(r, m) == ():
        found.append(FAR)
    return found


def bounds_of(r, m):
    """The least exponents at the poles and the room for m; None if some point has no exponent."""
    if len(bare_points(r, m)) > 0:
        return None
    least = tuple([(c, pole_exponents(r, c, m)[0]) for c in poles_of(r)])
    return (least, far_exponents(r, m)[-1] - sum([e for _, e in least]))


def products_row(r, m, u):
    """The row of products of a quotient."""
    row = [u, quotient_slope(u)]
    for i in range(1, m + 1):
        back = quotient_scaled(quotient_product(r, row[i - 1]), -i * (m - i + 1), 1)
        row.append(quotient_sum(quotient_slope(row[i]), back))
    return tuple(row)


def fold_in(r, m, bounds):
    """The fold of an equation for its least exponents."""
    return fold_of(r, m, [e for _, e in bounds[0]])


def columns_in(fold, room):
    """The lists of W_0, .., W_D, D being the room, each one times what scale_of tells."""
    return [folded(fold, [0] * k + [1]) for k in range(room + 1)]


def longest(columns):
    """The length of the longest one of some lists."""
    return max([len(column) for column in columns])


def fits_room(u, bounds):
    """Whether a quotient has only poles, and far away only a degree, as some T P has them."""
    least, room = bounds
    exponents = {c: e for c, e in least}
    if any([c not in exponents or len(row) > -exponents[c] for c, row in u[1]]):
        return False
    return u[0] == () or len(u[0]) - 1 <= room + sum([e for _, e in least])


def makes_form(r, m, u):
    """Whether a quotient is an m-form of an equation."""
    found = bounds_of(r, m)
    if found is None or not fits_room(u, found):
        return False
    powers = [(c, len(row_of_pole(u, c))) for c in poles_of(r)]
    fold = fold_of(r, m, [-many for _, many in powers])
    roots = roots_within(u)
    # The equation is plain, so the parts of u at unlike roots do not mix.
    return len(roots) > 0 and all([folded(fold, start_of(u, d, powers)) == [] for d in roots])


def start_of(u, d, powers):
    """The list whose product with T is a part of a quotient, up to a factor."""
    return list_trimmed(cleared(u, d, powers)[1])


def form_of(exponents, vector):
    """The quotient T P for the pairs (pole, exponent) of T and the list of P, up to a factor."""
    raised = factors_product([(c, e) for c, e in exponents if e > 0])
    whole = list_trimmed(list_product(raised, vector))
    form = (tuple([from_fraction(number, 1) for number in whole]), ())
    for c, e in exponents:
        if e < 0:
            form = quotient_product(form, ((), ((c, ((),) * (-e - 1) + (ONE,)),)))
    return form


def forms_in(r, m, bounds):
    """The pair (forms, places): forms of which all are sums of multiples, and places that bar all others."""
    fold = fold_in(r, m, bounds)
    columns = columns_in(fold, bounds[1])
    vectors, used = solved(columns, list(range(longest(columns))))
    return (tuple([form_of(bounds[0], vector) for vector in vectors]), tuple(used))


def stand_alone(forms, poles):
    """Whether no sum of multiples of plain quotients with such poles is zero but with all factors 0."""
    powers = [(c, max([len(row_of_pole(form, c)) for form in forms])) for c in poles]
    columns = [cleared(form, 1, powers)[1] for form in forms]
    return solved(columns, list(range(longest(columns))))[0] == []


def places_bar(r, m, bounds, places):
    """Whether no sum of multiples of the equations at some places is zero but with all factors 0."""
    columns = columns_in(fold_in(r, m, bounds), bounds[1])
    return solved(columns, places)[1] == places
