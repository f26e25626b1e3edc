"""What certificates have to be, told once more from the definitions, with sums and products of quotients alone."""

from fractions import Fraction

import oracle
from equations import fraction, linear, scaled
from twiceslope.forms import row_of_products
from twiceslope.points import exponents_at, exponents_far, far_order, orders
from twiceslope.quotients import plus, product, slope
from twiceslope.slopes import choices_at, choices_far

ONE, ZERO = ((1, 1, 1),), ((), ())


def minus(one, other):
    return plus(one, scaled(other, -1))


def rest(r, t, whole):
    """P'' + 2 t P' + (t' + t t - r) P."""
    first = slope((whole, ()))
    deep = minus(plus(slope(t), product(t, t)), r)
    return plus(plus(slope(first), scaled(product(t, first), 2)), product(deep, (whole, ())))


def raised(quotient, c, many):
    """A quotient times x - c to the power many, which may be below 0."""
    for _ in range(abs(many)):
        step = (linear(Fraction(c[0], c[1])), ()) if many > 0 else ((), ((c, (ONE,)),))
        quotient = product(quotient, step)
    return quotient


def target(r, t, whole):
    """The polynomial F(P)."""
    told = rest(r, t, whole)
    for c, order in orders(r):
        told = raised(told, c, max(1, order // 2))
    assert told[1] == ()
    return told[0]


def unit(k):
    return ((),) * k + (ONE,)


def is_answer(r, thing):
    if type(thing) is not tuple or len(thing) != 2:
        return False
    if not oracle.is_quotient(thing[0]) or not oracle.is_row(thing[1]) or thing[1] == ():
        return False
    return rest(r, thing[0], thing[1]) == ZERO


def odd_points(r):
    told = [c for c, order in orders(r) if order in (3, 5)]
    return told + ["far"] * (far_order(r) < 2 and far_order(r) % 2)


def outlines(r):
    """All lines in their order: (trunk, d) or None."""
    columns = [choices_at(r, c) for c, _ in orders(r)] + [choices_far(r)]
    rows = [()]
    for column in columns:
        rows = [line + (choice,) for line in rows for choice in column]
    found = []
    for line in rows:
        count = oracle.surd(line[-1][1])
        trunk = line[-1][0]
        for (c, _), (part, e) in zip(orders(r), line):
            count = oracle.add(count, oracle.multiply(oracle.surd(e), oracle.rational(-1)))
            trunk = plus(plus(trunk, part), ((), ((c, (e,)),) if e else ()))
        worth = count.get(frozenset(), Fraction(0))
        is_open = set(count) <= {frozenset()} and worth >= 0 and worth.denominator == 1
        found.append((trunk, int(worth)) if is_open else None)
    return found


def weighed(whole, weights):
    told = {}
    for one, weight in zip(whole, weights):
        told = oracle.add(told, oracle.multiply(oracle.surd(one), oracle.surd(weight)))
    return told


def weights_right(r, trunk, d, weights):
    if type(weights) is not tuple or not all(oracle.is_number(weight) for weight in weights):
        return False
    told = [weighed(target(r, trunk, unit(j)), weights) for j in range(d + 1)]
    return not any(told[:d]) and bool(told[d])


def slopes_right(r, thing):
    """Whether a value is a certificate of [4.4]."""
    if type(thing) is not tuple or not thing or type(thing[0]) is not str:
        return False
    if thing[0] == "answer":
        return len(thing) == 3 and is_answer(r, thing[1:])
    if len(thing) != 2 or thing[0] not in ("odd", "table"):
        return False
    if thing[0] == "odd":
        return any(type(thing[1]) is type(c) and repr(thing[1]) == repr(c) for c in odd_points(r))
    if odd_points(r) or type(thing[1]) is not tuple:
        return False
    found = outlines(r)
    return len(found) == len(thing[1]) and all(
        type(row) is str and row == "shut" if line is None else weights_right(r, line[0], line[1], row)
        for line, row in zip(found, thing[1])
    )


def bounds(r, m):
    least = [(c, exponents_at(r, c, m)) for c, _ in orders(r)]
    far = exponents_far(r, m)
    if not far or not all(told for _, told in least):
        return None
    return (tuple((c, told[0]) for c, told in least), far[-1] - sum(told[0] for _, told in least))


def columns(r, m):
    """The polynomials W_k, as lists of Fractions, by putting T x ** k into the row of products."""
    least, room = bounds(r, m)
    h = 1
    while any(order > 2 * h for _, order in orders(r)):
        h += 1
    found = []
    for k in range(room + 1):
        u = (unit(k), ())
        for c, e in least:
            u = raised(u, c, e)
        told = row_of_products(r, m, u)[-1]
        for c, e in least:
            told = raised(told, c, h * (m + 1) - e)
        assert told[1] == ()
        found.append([fraction(one) for one in told[0]])
    return found


def rank(rows):
    """The rank of a list of lists of Fractions."""
    rows, found = [list(row) for row in rows], 0
    for at in range(max([len(row) for row in rows], default=0)):
        heads = [row for row in rows if len(row) > at and row[at]]
        if heads:
            head = heads[0]
            others = [row for row in rows if row is not head]
            rows = [lessened(row, head, at) for row in others]
            found += 1
    return found


def lessened(row, head, at):
    width = max(len(row), len(head))
    row, head = [one + [Fraction(0)] * (width - len(one)) for one in (row, head)]
    return [one - row[at] / head[at] * other for one, other in zip(row, head)]


def is_plain(thing):
    rows = [thing[0]] + [row for _, row in thing[1]]
    return all(len(one) == 0 or len(one) == 1 and one[0][0] == 1 for row in rows for one in row)


def flat(forms):
    """The numbers of plain quotients, side by side, as lists of Fractions."""
    places = sorted({(c, j) for form in forms for c, row in form[1] for j in range(len(row))})
    length = max(len(form[0]) for form in forms)
    found = []
    for form in forms:
        tails = {(c, j): fraction(one) for c, row in form[1] for j, one in enumerate(row)}
        whole = [fraction(one) for one in form[0]] + [Fraction(0)] * (length - len(form[0]))
        found.append(whole + [tails.get(place, Fraction(0)) for place in places])
    return found


def is_form(r, m, thing):
    return oracle.is_quotient(thing) and thing != ZERO and row_of_products(r, m, thing)[-1] == ZERO


def places_right(told, places, many):
    if type(places) is not tuple or len(places) != many or any(type(place) is not int for place in places):
        return False
    if list(places) != sorted(set(places)) or any(place < 0 for place in places):
        return False
    rows = [[one[place] if place < len(one) else Fraction(0) for one in told] for place in places]
    return rank(rows) == many


def forms_right(r, m, thing, told=None):
    """Whether a value is a certificate of [5.3]; told may be what columns tells."""
    if type(thing) is not tuple or len(thing) not in (2, 3) or type(thing[0]) is not str:
        return False
    found = bounds(r, m)
    if thing[0] == "point" and len(thing) == 2:
        bare = [c for c, _ in orders(r) if not exponents_at(r, c, m)] + ["far"] * (not exponents_far(r, m))
        return any(type(thing[1]) is type(c) and repr(thing[1]) == repr(c) for c in bare)
    if found is None:
        return False
    room = found[1]
    if thing[0] == "room" and len(thing) == 2:
        return room < 0 and type(thing[1]) is int and thing[1] == room
    if room < 0:
        return False
    told = columns(r, m) if told is None else told
    if thing[0] == "none" and len(thing) == 2:
        return places_right(told, thing[1], room + 1)
    if thing[0] != "forms" or len(thing) != 3 or type(thing[1]) is not tuple or not thing[1]:
        return False
    forms = thing[1]
    if not all(is_form(r, m, form) and is_plain(form) for form in forms) or rank(flat(forms)) < len(forms):
        return False
    return places_right(told, thing[2], room + 1 - len(forms))
