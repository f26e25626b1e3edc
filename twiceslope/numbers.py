"""Numbers: sums of fractions times square roots of integers."""

from twiceslope.checks import all_integers, in_lowest_terms, is_tuple_of
from twiceslope.errors import BadNumber
from twiceslope.exact import from_fraction, lowest
from twiceslope.exact import number_difference, number_inverse, number_product, number_sum, whole_number
from twiceslope.factors import free_of_squares, square_split

# No right number beyond the limits is asked about. So a d of this size is told to be wrong, which spares the
# search for squares in integers that are too large for it.
TOO_LARGE = 10 ** 15


def fits_as_d(d):
    """Whether an integer can be the d of a number."""
    return d != 0 and abs(d) < TOO_LARGE and free_of_squares(abs(d))


def is_triple(thing):
    """Whether any value is a triple (d, top, bottom) as numbers have them."""
    if not (is_tuple_of(thing, 3) and all_integers(thing)):
        return False
    d, top, bottom = thing
    return top != 0 and in_lowest_terms(top, bottom) and fits_as_d(d)


def is_number(thing):
    """Whether any value is a number."""
    if not isinstance(thing, tuple):
        return False
    if not all([is_triple(triple) for triple in thing]):
        return False
    return all([thing[k][0] < thing[k + 1][0] for k in range(len(thing) - 1)])


def is_fraction(thing):
    """Whether any value is a number that is a fraction."""
    return is_number(thing) and (len(thing) == 0 or len(thing) == 1 and thing[0][0] == 1)


def check_number(thing):
    """Raise BadNumber for what is no number."""
    if not is_number(thing):
        raise BadNumber(thing)


def check_pair(top, bottom):
    """Raise BadNumber for what is no fraction of two integers."""
    if not all_integers((top, bottom)) or bottom == 0:
        raise BadNumber((top, bottom))


def fraction(top, bottom):
    """The number top / bottom."""
    check_pair(top, bottom)
    return from_fraction(top, bottom)


def added(one, other):
    """The sum of two numbers."""
    check_number(one)
    check_number(other)
    return number_sum(one, other)


def taken(one, other):
    """The difference of two numbers."""
    check_number(one)
    check_number(other)
    return number_difference(one, other)


def times(one, other):
    """The product of two numbers."""
    check_number(one)
    check_number(other)
    return number_product(one, other)


def over(one, other):
    """The quotient of two numbers, the other one not 0."""
    check_number(one)
    check_number(other)
    if other == ():
        raise BadNumber(other)
    return number_product(one, number_inverse(other))


def root_of(top, bottom):
    """The number ((d, a, b),), a above 0, whose square is top / bottom; () for 0."""
    check_pair(top, bottom)
    if top == 0:
        return ()
    top, bottom = lowest(top, bottom)
    free, root = square_split(abs(top))
    low_free, low_root = square_split(bottom)
    # The root of 1 / low_free is that of low_free, divided by low_free.
    d = free * low_free if top > 0 else -free * low_free
    return ((d, root, low_root * low_free),)


def integer_of(number):
    """The integer that a number is; None if it is none."""
    check_number(number)
    return whole_number(number)
