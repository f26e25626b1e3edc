"""A second, slower way to compute what the package tells, made of other pieces.

A surd is a dict from frozensets of primes (and -1) to Fractions: the product of the roots of the members, times
the Fraction. A series is a list of surds, the numbers of the powers of u from 0 on.
"""

from fractions import Fraction


def primes_of(size):
    """The primes of an integer from 1 on, with repeats."""
    found, factor = [], 2
    while size > 1:
        while size % factor == 0:
            found.append(factor)
            size //= factor
        factor += 1
        if factor * factor > size > 1:
            found.append(size)
            size = 1
    return found


def surd(number):
    """The surd of a number of the package."""
    told = {}
    for d, top, bottom in number:
        primes = primes_of(abs(d))
        assert len(set(primes)) == len(primes)
        told[frozenset(primes + [-1] * (d < 0))] = Fraction(top, bottom)
    return told


def clean(told):
    return {key: told[key] for key in told if told[key] != 0}


def add(one, other):
    told = dict(one)
    for key in other:
        told[key] = told.get(key, 0) + other[key]
    return clean(told)


def multiply(one, other):
    told = {}
    for left in one:
        for right in other:
            worth = one[left] * other[right]
            for prime in left & right:
                worth *= prime
            key = left ^ right
            told[key] = told.get(key, 0) + worth
    return clean(told)


def rational(top, bottom=1):
    return clean({frozenset(): Fraction(top, bottom)})


def value(quotient, x):
    """The surd of a quotient at a Fraction that is none of its poles."""
    total, power = {}, Fraction(1)
    for number in quotient[0]:
        total = add(total, multiply(surd(number), rational(power)))
        power *= x
    for (top, bottom), row in quotient[1]:
        power = Fraction(1)
        for number in row:
            power /= x - Fraction(top, bottom)
            total = add(total, multiply(surd(number), rational(power)))
    return total


def poles(*quotients):
    return {Fraction(top, bottom) for quotient in quotients for (top, bottom), row in quotient[1]}


def size(quotient):
    """An integer above the degree of what is above and what is below the line."""
    return len(quotient[0]) + sum(len(row) for pole, row in quotient[1]) + 1


def points(many, barred):
    """Many Fractions that are not barred."""
    found, x = [], Fraction(-7, 2)
    while len(found) < many:
        if x not in barred:
            found.append(x)
        x += Fraction(1, 3)
    return found


def series_product(one, other, many):
    told = [{} for _ in range(many)]
    for j, left in enumerate(one[:many]):
        for k, right in enumerate(other[:many - j]):
            told[j + k] = add(told[j + k], multiply(left, right))
    return told


def linear_inverse(first, second, many):
    """The series of 1 / (first + second u) for Fractions."""
    return [rational((-second / first) ** k / first) for k in range(many)]


def row_at(quotient, c, many):
    """The pair (k, numbers) at a Fraction, as surds: by multiplying series out."""
    shift = max([len(row) for (top, bottom), row in quotient[1] if Fraction(top, bottom) == c] + [0])
    length = many + shift + size(quotient)
    total = [{} for _ in range(length)]

    def include(number, series, offset):
        for k, part in enumerate(series[:length - offset]):
            total[k + offset] = add(total[k + offset], multiply(surd(number), part))

    power = [rational(1)]
    for number in quotient[0]:
        include(number, power, shift)
        power = series_product(power, [rational(c), rational(1)], length)
    for (top, bottom), row in quotient[1]:
        gap = c - Fraction(top, bottom)
        power = [rational(1)]
        for j, number in enumerate(row):
            if gap == 0:
                include(number, power, shift - j - 1)
            else:
                power = series_product(power, linear_inverse(gap, Fraction(1), length), length)
                include(number, power, shift)
    return first_of(total, -shift, 1, many)


def row_far(quotient, many):
    """The pair (k, numbers) far away, as surds: with x = 1 / u."""
    shift = len(quotient[0])
    length = many + shift + size(quotient)
    total = [{} for _ in range(length)]
    for k, number in enumerate(quotient[0]):
        total[shift - k] = surd(number)
    for (top, bottom), row in quotient[1]:
        power = [rational(1)]
        for number in row:
            inverse = [{}] + linear_inverse(Fraction(1), -Fraction(top, bottom), length)
            power = series_product(power, inverse, length)
            for k, part in enumerate(power[:length - shift]):
                total[k + shift] = add(total[k + shift], multiply(surd(number), part))
    return first_of(total, shift, -1, many)


def first_of(total, k, step, many):
    """The pair of the power of the first number that is not 0, and many numbers from there on."""
    for at, number in enumerate(total):
        if number:
            return (k + step * at, total[at:at + many])
    return (0, [])


def slope_value(quotient, x):
    """The slope at a Fraction: the number at the first power of u of the series at x."""
    k, numbers = row_at(quotient, x, 2)
    if not numbers or k > 1:
        return {}
    return numbers[1 - k]


def is_number(thing):
    """Whether a value is a number, with d of at most 10 ** 6 in size."""
    if type(thing) is not tuple:
        return False
    ds = []
    for triple in thing:
        if type(triple) is not tuple or [type(part) for part in triple] != [int, int, int]:
            return False
        d, top, bottom = triple
        if d == 0 or abs(d) > 10 ** 6 or any(d % (k * k) == 0 for k in range(2, 1001)):
            return False
        if top == 0 or bottom < 1 or Fraction(top, bottom).denominator != bottom:
            return False
        ds.append(d)
    return ds == sorted(set(ds))


def is_row(thing):
    return type(thing) is tuple and all(is_number(part) for part in thing) and thing[-1:] != ((),)


def is_quotient(thing):
    if type(thing) is not tuple or len(thing) != 2 or not is_row(thing[0]) or type(thing[1]) is not tuple:
        return False
    found = []
    for tail in thing[1]:
        if type(tail) is not tuple or len(tail) != 2:
            return False
        pole, row = tail
        if type(pole) is not tuple or [type(part) for part in pole] != [int, int] or not is_row(row) or row == ():
            return False
        if pole[1] < 1 or Fraction(pole[0], pole[1]).denominator != pole[1]:
            return False
        found.append(Fraction(pole[0], pole[1]))
    return found == sorted(set(found))
