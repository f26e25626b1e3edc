"""Squares and primes that divide integers."""

from math import isqrt


def square_split(size):
    """The pair (free, root), size being free * root * root, where no square above 1 divides free."""
    free, root, factor = 1, 1, 2
    while factor * factor * factor <= size:
        while size % (factor * factor) == 0:
            size = size // (factor * factor)
            root = root * factor
        if size % factor == 0:
            size = size // factor
            free = free * factor
        factor += 1
    # No prime below factor is left, so what remains has at most two primes: a square, or free of squares.
    rest = isqrt(size)
    if rest * rest == size:
        return (free, root * rest)
    return (free * size, root)


def free_of_squares(size):
    """Whether no square above 1 divides an integer from 1 on."""
    return square_split(size)[1] == 1


def least_prime(size):
    """The least prime that divides an integer above 1."""
    factor = 2
    while factor * factor <= size:
        if size % factor == 0:
            return factor
        factor += 1
    return size
