"""The row of products of u = T V, T being powers of x - c, in integers alone. Nothing is checked here.

With S, the product of all bottom * x - top of the poles of r, and h as the document has it, the item i of the row is
T V_i / S ** (h i) up to a factor, where V_0 = V and V_(i + 1) is a sum of multiples of V_i, its slope, and V_(i - 1).
"""

from twiceslope.cleared import cleared
from twiceslope.lists import factors_product, list_product, list_scaled, list_slope, list_sum, list_trimmed
from twiceslope.parts import poles_of, power


def height_of(r):
    """The least h from 1 on with which S ** (2 h) clears an equation of its poles."""
    return max([1] + [(len(row) + 1) // 2 for _, row in r[1]])


def fold_of(r, m, exponents):
    """What folded needs for an equation, a degree and the list of the exponents of T, as the poles ascend.

    It is the tuple (m, height, factor, S ** h, mixes, G): G is the list of S ** (2 h) r times the factor, and mixes
    are the lists with which V_i is multiplied.
    """
    poles = poles_of(r)
    height = height_of(r)
    clear = factors_product([(c, height) for c in poles])
    factor, rest = cleared(r, 1, [(c, 2 * height) for c in poles])
    parts = [list_scaled(one_less(poles, c, height), c[1]) for c in poles]
    mixes = [mixed(parts, [e - i * height for e in exponents]) for i in range(m + 1)]
    return (m, height, factor, clear, mixes, list_trimmed(rest))


def one_less(poles, c, height):
    """The list of S ** h divided by bottom * x - top of one pole."""
    return factors_product([(pole, height - 1 if pole == c else height) for pole in poles])


def mixed(parts, weights):
    """The sum of the multiples of some lists."""
    total = []
    for part, weight in zip(parts, weights):
        total = list_sum(total, list_scaled(part, weight))
    return total


def folded(fold, start):
    """The list V_(m + 1) for a list V, times what scale_of tells."""
    m, _, factor, clear, mixes, rest = fold
    before, now = [], start
    for i in range(m + 1):
        ahead = list_sum(list_product(clear, list_slope(now)), list_product(mixes[i], now))
        if i % 2 == 1:
            ahead = list_scaled(ahead, factor)
        back = list_scaled(list_product(rest, before), -i * (m - i + 1))
        before, now = now, list_trimmed(list_sum(ahead, back))
    return now


def scale_of(r, fold):
    """What folded multiplies the polynomial of the document's definition with."""
    m, height, factor = fold[0], fold[1], fold[2]
    bottoms = 1
    for c in poles_of(r):
        bottoms = bottoms * c[1]
    return power(bottoms, height * (m + 1)) * power(factor, m // 2)
