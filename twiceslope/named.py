"""Named equations, and their verdicts by conditions on their parameters alone.

A parameter is a fraction (top, bottom). The conditions are told in parts of it, PARTS of which are 1, so that each
fraction with a bottom of at most 12 is an integer.
"""

from itertools import permutations
from twiceslope.checks import is_integer, is_pole
from twiceslope.errors import BadFraction
from twiceslope.exact import ONE, from_fraction, weighted_sum
from twiceslope.parts import ORIGIN, from_rows, trimmed

MOST_BOTTOM = 12
MOST_SIZE = 6
PARTS = 27720
QUOTIENT = "quotient"
NOTHING = "nothing"
BESIDE = (1, 1)
# The integers n for which x ** n has the verdict "quotient".
TOLD_POWERS = (0, -2, -4)
# The rows of H. Schwarz: differences of exponents of equations all of whose answers are roots of polynomials.
ROWS = (
    ("four faces", (1, 2), (1, 3), (1, 3)),
    ("four faces", (2, 3), (1, 3), (1, 3)),
    ("eight faces", (1, 2), (1, 3), (1, 4)),
    ("eight faces", (2, 3), (1, 4), (1, 4)),
    ("twenty faces", (1, 2), (1, 3), (1, 5)),
    ("twenty faces", (2, 5), (1, 3), (1, 3)),
    ("twenty faces", (2, 3), (1, 5), (1, 5)),
    ("twenty faces", (1, 2), (2, 5), (1, 5)),
    ("twenty faces", (3, 5), (1, 3), (1, 5)),
    ("twenty faces", (2, 5), (2, 5), (2, 5)),
    ("twenty faces", (2, 3), (1, 3), (1, 5)),
    ("twenty faces", (4, 5), (1, 5), (1, 5)),
    ("twenty faces", (1, 2), (2, 5), (1, 3)),
    ("twenty faces", (3, 5), (2, 5), (1, 3)),
)


def is_parameter(thing):
    """Whether any value is a fraction as parameters of named equations are."""
    return is_pole(thing) and thing[1] <= MOST_BOTTOM and abs(thing[0]) <= MOST_SIZE * thing[1]


def check_parameters(things):
    """Raise BadFraction with the first one of some things that is no parameter."""
    for thing in things:
        if not is_parameter(thing):
            raise BadFraction(thing)


def check_power(n):
    """Raise BadFraction for what is no integer from -6 to 6."""
    if not (is_integer(n) and abs(n) <= MOST_SIZE):
        raise BadFraction(n)


def square_of(fraction):
    """The number that the square of a fraction is."""
    return from_fraction(fraction[0] * fraction[0], fraction[1] * fraction[1])


def sum_of(parts, bottom):
    """The sum of number * factor for a list of pairs of numbers and integers, divided by an integer."""
    return weighted_sum([(number, factor, bottom) for number, factor in parts])


def power_equation(n):
    """The equation x ** n."""
    check_power(n)
    if n >= 0:
        return (((),) * n + (ONE,), ())
    return ((), ((ORIGIN, ((),) * (-n - 1) + (ONE,)),))


def bessel(n):
    """The equation -1 + (n n - 1/4) / x ** 2."""
    check_parameters([n])
    row = trimmed([(), sum_of([(square_of(n), 4), (ONE, -1)], 4)])
    return from_rows((from_fraction(-1, 1),), [ORIGIN], [row])


def weber(a):
    """The equation x x / 4 + a."""
    check_parameters([a])
    return ((from_fraction(a[0], a[1]), (), from_fraction(1, 4)), ())


def whittaker(k, m):
    """The equation 1/4 - k / x + (m m - 1/4) / x ** 2."""
    check_parameters([k, m])
    row = trimmed([from_fraction(-k[0], k[1]), sum_of([(square_of(m), 4), (ONE, -1)], 4)])
    return from_rows((from_fraction(1, 4),), [ORIGIN], [row])


def three_points(l, m, n):
    """The equation with l, m and n as the differences of exponents at 0, at 1 and far away."""
    check_parameters([l, m, n])
    squares = [square_of(l), square_of(m), square_of(n)]
    # 1 / (x (x - 1)) is 1 / (x - 1) less 1 / x.
    mixed = [(squares[2], 1), (squares[0], -1), (squares[1], -1), (ONE, 1)]
    at_origin = trimmed([sum_of(mixed, -4), sum_of([(squares[0], 1), (ONE, -1)], 4)])
    beside = trimmed([sum_of(mixed, 4), sum_of([(squares[1], 1), (ONE, -1)], 4)])
    return from_rows((), [ORIGIN, BESIDE], [at_origin, beside])


def parts_in(fraction):
    """How many of PARTS a fraction has."""
    return fraction[0] * (PARTS // fraction[1])


def tells_odd(parts):
    """Whether a fraction, told in parts, is an odd integer."""
    return parts % (2 * PARTS) == PARTS


def told_if(holds):
    """The verdict "quotient" if a condition holds, "nothing" otherwise."""
    return QUOTIENT if holds else NOTHING


def power_verdict(n):
    """The verdict of x ** n."""
    check_power(n)
    return told_if(n in TOLD_POWERS)


def bessel_verdict(n):
    """The verdict of F. Bessel's equation."""
    check_parameters([n])
    return told_if(tells_odd(2 * parts_in(n)))


def weber_verdict(a):
    """The verdict of H. Weber's equation."""
    check_parameters([a])
    return told_if(tells_odd(2 * parts_in(a)))


def whittaker_verdict(k, m):
    """The verdict of E. Whittaker's equation."""
    check_parameters([k, m])
    one, other = parts_in(k), parts_in(m)
    lessened = [total - PARTS // 2 for total in (one + other, one - other, other - one, -one - other)]
    return told_if(any([parts >= 0 and parts % PARTS == 0 for parts in lessened]))


def signed(parts):
    """The list of the triples of three integers, each one times 1 or -1."""
    first, second, third = parts
    return [
        (sign * first, other * second, last * third)
        for sign in (1, -1) for other in (1, -1) for last in (1, -1)
    ]


def lies_over(parts, row):
    """Whether three integers of parts, less those of a row, are integers whose sum is even."""
    apart = [one - parts_in(other) for one, other in zip(parts, row)]
    return all([one % PARTS == 0 for one in apart]) and sum(apart) % (2 * PARTS) == 0


def fits_row(parts, row):
    """Whether three integers of parts, in some order and with some signs, lie over a row."""
    for order in permutations(parts):
        if any([lies_over(told, row) for told in signed(order)]):
            return True
    return False


def three_points_verdict(l, m, n):
    """The verdict of C. Gauss's equation."""
    check_parameters([l, m, n])
    parts = [parts_in(l), parts_in(m), parts_in(n)]
    total = sum(parts)
    if tells_odd(total) or any([tells_odd(total - 2 * one) for one in parts]):
        return QUOTIENT
    halves = len([one for one in parts if tells_odd(2 * one)])
    if halves > 1:
        return "eight" if halves == 3 else "square"
    for row in ROWS:
        if fits_row(parts, row[1:]):
            return row[0]
    return NOTHING
