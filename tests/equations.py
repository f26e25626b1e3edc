"""Equations made from Fractions, and equations of which it is known what answers they have."""

from fractions import Fraction
from itertools import permutations, product as pairs

from twiceslope.quotients import plus, product, slope

ONE, TWO = ((1, 1, 1),), ((1, 2, 1),)
ZERO = ((), ())
FACES = {
    "four faces": ("1/2 1/3 1/3", "2/3 1/3 1/3"),
    "eight faces": ("1/2 1/3 1/4", "2/3 1/4 1/4"),
    "twenty faces": (
        "1/2 1/3 1/5", "2/5 1/3 1/3", "2/3 1/5 1/5", "1/2 2/5 1/5", "3/5 1/3 1/5", "2/5 2/5 2/5", "2/3 1/3 1/5",
        "4/5 1/5 1/5", "1/2 2/5 1/3", "3/5 2/5 1/3",
    ),
}


def number(worth):
    """The number of the package for a Fraction, an integer or words such as 2/3."""
    worth = Fraction(worth)
    return ((1, worth.numerator, worth.denominator),) if worth else ()


def fraction(told):
    """The Fraction of a number that is a fraction."""
    return Fraction(told[0][1], told[0][2]) if told else Fraction(0)


def row(worths):
    told = [number(worth) for worth in worths]
    while told and told[-1] == ():
        told.pop()
    return tuple(told)


def quotient(whole, tails=()):
    """The quotient of Fractions: tails is a dict from poles to lists, the one at 0 belonging to 1 / (x - pole)."""
    tails = {Fraction(c): row(tails[c]) for c in tails}
    told = [((c.numerator, c.denominator), tails[c]) for c in sorted(tails) if tails[c]]
    return (row(whole), tuple(told))


def scaled(one, factor):
    return product(one, ((number(factor),) if factor else (), ()))


def led_by(w):
    """The equation of which a quotient w is the slope over itself of an answer."""
    return plus(slope(w), product(w, w))


def linear(c):
    """x - c."""
    return (number(-Fraction(c)), ONE)


def root(c, factor=1):
    """(x - c) ** k has k times this as its slope over itself."""
    return quotient([], {c: [factor]})


def total(quotients):
    told = ZERO
    for one in quotients:
        told = plus(told, one)
    return told


def square_equation(exponents, k):
    """An equation with the 4-form v, the product of all (x - c) ** exponents[c], and with the answers whose slopes
    over themselves are v' / (4 v) + s and v' / (4 v) - s, the square of s being k / v."""
    w = total(root(c, Fraction(exponents[c], 4)) for c in exponents)
    over = ((number(k),), ())
    for c in exponents:
        step = quotient([], {c: [1]}) if exponents[c] > 0 else (linear(c), ())
        for _ in range(abs(exponents[c])):
            over = product(over, step)
    return plus(led_by(w), over)


def is_odd(worth):
    return Fraction(worth).denominator == 1 and Fraction(worth).numerator % 2 == 1


def power(n):
    return quotient([0] * n + [1]) if n >= 0 else quotient([], {0: [0] * (-n - 1) + [1]})


def bessel(n):
    return quotient([-1], {0: [0, Fraction(n) ** 2 - Fraction(1, 4)]})


def weber(a):
    return quotient([a, 0, Fraction(1, 4)])


def whittaker(k, m):
    return quotient([Fraction(1, 4)], {0: [-Fraction(k), Fraction(m) ** 2 - Fraction(1, 4)]})


def whittaker_verdict(k, m):
    k, m = Fraction(k), Fraction(m)
    told = [worth - Fraction(1, 2) for worth in (k + m, k - m, m - k, -k - m)]
    return "quotient" if any(worth.denominator == 1 and worth >= 0 for worth in told) else "nothing"


def three_points(l, m, n):
    l, m, n = Fraction(l), Fraction(m), Fraction(n)
    k = (n * n - l * l - m * m + 1) / 4
    return quotient([], {0: [-k, (l * l - 1) / 4], 1: [k, (m * m - 1) / 4]})


def three_points_verdict(l, m, n):
    """The verdict by the conditions of H. Schwarz and T. Kimura."""
    worths = [Fraction(worth) for worth in (l, m, n)]
    l, m, n = worths
    if any(is_odd(worth) for worth in (l + m + n, m + n - l, l - m + n, l + m - n)):
        return "quotient"
    halves = sum(is_odd(2 * worth) for worth in worths)
    if halves > 1:
        return "eight" if halves == 3 else "square"
    for name in FACES:
        for told in FACES[name]:
            told = [Fraction(word) for word in told.split()]
            if any(fits(one, signs, told) for one in permutations(worths) for signs in pairs((1, -1), repeat=3)):
                return name
    return "nothing"


def fits(worths, signs, told):
    apart = [worth * sign - one for worth, sign, one in zip(worths, signs, told)]
    return all(worth.denominator == 1 for worth in apart) and sum(apart) % 2 == 0


def moved(one, step):
    """A quotient in which x is replaced by x plus an integer."""
    whole, factor = ((), ()), ((ONE,), ())
    for told in one[0]:
        whole = plus(whole, product(factor, ((told,) if told else (), ())))
        factor = product(factor, ((number(step), ONE) if step else ((), ONE), ()))
    return (whole[0], tuple(((top - step * bottom, bottom), tail) for (top, bottom), tail in one[1]))
