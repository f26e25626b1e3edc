"""Right values of many shapes, and wrong ones made of them, from a seeded source."""

from fractions import Fraction

ROOTS = (-10, -7, -6, -5, -3, -2, -1, 1, 2, 3, 5, 6, 7, 10, 15)

# Values of many kinds that are no tuple with integers.
ODD_VALUES = (
    None, True, False, "", "1", "((1, 1, 1),)", [], [1], [(1, 1, 1)], {}, {"d": 1}, {1: (1, 1, 1)}, (None,), (True,),
    (False, 1), ("a", "b"), ([],), ({},), ((), [()]), "x\n~ ", 10 ** 39, -(10 ** 39),
    (((((((((((1,),),),),),),),),),),),
    [[[[[[[[[[[1]]]]]]]]]]], ((1, 1, True),), ((True, 1, 1),), ([1, 1, 1],), [[1, 1, 1]], (1, 1, 1),
)


def number(source, many, digits=8, roots=ROOTS):
    """A number with many triples."""
    told = []
    for d in sorted(source.sample(roots, many)):
        top, bottom = source.randint(1, 10 ** digits - 1), source.randint(1, 10 ** digits - 1)
        worth = Fraction(source.choice((-1, 1)) * top, bottom)
        told.append((d, worth.numerator, worth.denominator))
    return tuple(told)


def row(source, length, many=1, digits=2):
    """A row of numbers, the last one not 0, some others 0."""
    numbers = [number(source, source.randint(0, many), digits) for _ in range(length - 1)]
    return tuple(numbers) + (number(source, source.randint(1, many), digits),) if length else ()


def plain_row(source, length, digits=2):
    numbers = [number(source, source.randint(0, 1), digits, (1,)) for _ in range(length - 1)]
    return tuple(numbers) + (number(source, 1, digits, (1,)),) if length else ()


def ascending(poles):
    return tuple(sorted(poles, key=lambda pole: Fraction(pole[0], pole[1])))


def poles(source, many, size=20):
    """Many poles, ascending as fractions."""
    found = set()
    while len(found) < many:
        worth = Fraction(source.randint(-size, size), source.randint(1, size))
        found.add((worth.numerator, worth.denominator))
    return ascending(found)


def quotient(source, degree, orders, many=1, digits=2, size=20, at=None):
    """A quotient with a whole of the degree (-1 for none) and poles of the orders."""
    places = poles(source, len(orders), size) if at is None else ascending(at)
    return (
        row(source, degree + 1, many, digits),
        tuple((pole, row(source, order, many, digits)) for pole, order in zip(places, orders)),
    )


def some_quotient(source, degree, order, places):
    """A quotient with a whole of at most the degree, and the poles, of at most the order; two triples in a number."""
    orders = [source.randint(1, order) for _ in places]
    return quotient(source, source.randint(-1, degree), orders, 2, at=places)


def plain_quotient(source, degree, orders, digits=2, size=20):
    places = poles(source, len(orders), size)
    return (
        plain_row(source, degree + 1, digits),
        tuple((pole, plain_row(source, order, digits)) for pole, order in zip(places, orders)),
    )


def spoiled(source, thing):
    """The thing with one part replaced, left out, exchanged or repeated."""
    if not isinstance(thing, tuple) or not thing or source.random() < 0.15:
        if type(thing) is int and source.random() < 0.7:
            return source.choice((thing + 1, thing - 1, -thing, 0, 1, 2, thing * 4, bool(thing), str(thing), [thing]))
        if isinstance(thing, tuple) and source.random() < 0.4:
            return list(thing)
        return source.choice(ODD_VALUES)
    at = source.randrange(len(thing))
    way = source.randrange(8)
    if way == 0:
        return thing[:at] + thing[at + 1:]
    if way == 1:
        return thing[:at] + (thing[at],) + thing[at:]
    if way == 2:
        other = source.randrange(len(thing))
        parts = list(thing)
        parts[at], parts[other] = parts[other], parts[at]
        return tuple(parts)
    return thing[:at] + (spoiled(source, thing[at]),) + thing[at + 1:]
