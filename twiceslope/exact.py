"""Arithmetic of numbers that are known to be right: nothing is checked here."""

from math import gcd
from twiceslope.factors import least_prime

ONE = ((1, 1, 1),)
# Stands for the sign among the primes: it divides each d below 0.
SIGN = -1


def lowest(top, bottom):
    """The pair of a fraction in lowest terms, with a bottom above 0."""
    common = gcd(top, bottom)
    if bottom < 0:
        common = -common
    return (top // common, bottom // common)


def from_fraction(top, bottom):
    """The number top / bottom."""
    if top == 0:
        return ()
    top, bottom = lowest(top, bottom)
    return ((1, top, bottom),)


def add_term(totals, d, top, bottom):
    """Add top / bottom times the root of d to a dict from d to pairs (top, bottom), not in lowest terms."""
    if d in totals:
        high, low = totals[d]
        # Bottoms alone are shortened on the way: they are smaller than tops, and many of them are alike.
        common = bottom if low == bottom else gcd(low, bottom)
        top, bottom = high * (bottom // common) + top * (low // common), low * (bottom // common)
    totals[d] = (top, bottom)


def from_totals(totals):
    """The number that such a dict stands for."""
    found = []
    for d in sorted(totals):
        if totals[d][0] != 0:
            top, bottom = lowest(totals[d][0], totals[d][1])
            found.append((d, top, bottom))
    return tuple(found)


def weighted_sum(parts):
    """The sum of number * top / bottom for a list of triples (number, top, bottom)."""
    totals = {}
    for number, top, bottom in parts:
        for d, high, low in number:
            add_term(totals, d, high * top, low * bottom)
    return from_totals(totals)


def scaled(number, top, bottom):
    """A number times top / bottom."""
    return weighted_sum([(number, top, bottom)])


def number_sum(one, other):
    """The sum of two numbers."""
    return weighted_sum([(one, 1, 1), (other, 1, 1)])


def number_difference(one, other):
    """The difference of two numbers."""
    return weighted_sum([(one, 1, 1), (other, -1, 1)])


def root_product(d, e):
    """The pair (f, factor): the root of d times the root of e is factor times the root of f."""
    common = gcd(d, e)
    factor = -common if d < 0 and e < 0 else common
    return (d * e // (common * common), factor)


def add_product(totals, one, other):
    """Add the product of two numbers to a dict as add_term takes it."""
    for d, top, bottom in one:
        for e, high, low in other:
            f, factor = root_product(d, e)
            add_term(totals, f, top * high * factor, bottom * low)


def product_sum(pairs):
    """The sum of the products of the pairs of numbers in a list."""
    totals = {}
    for one, other in pairs:
        add_product(totals, one, other)
    return from_totals(totals)


def number_product(one, other):
    """The product of two numbers."""
    return product_sum([(one, other)])


def turns(d, prime):
    """Whether the root of d changes its sign when that of a prime, or of -1, does."""
    return d < 0 if prime == SIGN else d % prime == 0


def mirrored(number, prime):
    """The number in which the root of a prime, or of -1, is replaced by its negative."""
    return tuple([(d, -top if turns(d, prime) else top, bottom) for d, top, bottom in number])


def prime_within(number):
    """A prime whose root is within a number, or -1 for the sign; 1 if the number is a fraction."""
    for triple in number:
        d = triple[0]
        if d < 0:
            return SIGN
        if d > 1:
            return least_prime(d)
    return 1


def number_inverse(number):
    """1 over a number other than 0."""
    above, below = ONE, number
    prime = prime_within(below)
    while prime != 1:
        # A number times its mirror image is free of the prime's root, so each round halves what can be left.
        image = mirrored(below, prime)
        above = number_product(above, image)
        below = number_product(below, image)
        prime = prime_within(below)
    _, top, bottom = below[0]
    return scaled(above, bottom, top)


def whole_number(number):
    """The integer that a number is; None if it is none."""
    if number == ():
        return 0
    d, top, bottom = number[0]
    if len(number) == 1 and d == 1 and bottom == 1:
        return top
    return None
