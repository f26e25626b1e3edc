"""7.2: products of two answers, and what stays of them."""

import random
import unittest
from fractions import Fraction

import makers
import second
import wrong
from equations import ONE, ZERO, bessel, led_by, linear, number, power, quotient, root, scaled
from same import SameCase, is_exact, kept
from test_answers import ALWAYS, ONCE, TWICE
from twiceslope.errors import BadAnswer, BadEquation
from twiceslope.forms import is_form, row_of_products
from twiceslope.numbers import is_number, taken, times
from twiceslope.putin import product_of, stays, writing
from twiceslope.quotients import is_quotient, plus, product, slope
from twiceslope.slopes import answers

HALF = Fraction(1, 2)
SURD = ((-6, 1, 2), (1, -3, 1))
UNIT = quotient([1])
GROWING, FALLING = (quotient([1]), (ONE,)), (quotient([-1]), (ONE,))
# Equations whose answers are e to the power of integrals of quotients with roots, for roots of many numbers.
ROOTED = (
    quotient([2]), quotient([-1]), quotient([], {0: [0, 1]}), quotient([], {0: [0, 0, 0, -6]}),
    quotient([3], {0: [0, 2]}),
    bessel(Fraction(7, 2)), quotient([-5], {Fraction(1, 2): [0, 12]}),
)


def by_definition(r, one, other):
    """The product and what stays, with E multiplied out step by step."""
    (t, p), (u, q) = one, other
    powers, g = writing(plus(t, u))
    assert g == ZERO
    both = product((p, ()), (q, ()))
    apart = product(both, second.minus(u, t))
    cross = second.minus(product((p, ()), slope((q, ()))), product((q, ()), slope((p, ()))))
    told = plus(apart, cross)
    for c, e in powers:
        assert len(e) == 1 and e[0][0] == 1 and e[0][2] == 1
        both, told = second.raised(both, c, e[0][1]), second.raised(told, c, e[0][1])
    return both, told


def written_otherwise(source, answer):
    """The same answer with a factor x - c more or less in the polynomial, at a pole, a zero or elsewhere."""
    t, whole = answer
    for _ in range(source.randint(1, 3)):
        c = source.choice((0, 1, -2, Fraction(1, 2), Fraction(-3, 5)) + tuple(Fraction(*pole) for pole, _ in t[1]))
        t, whole = plus(t, root(c, -1)), product((whole, ()), (linear(c), ()))[0]
    return (t, whole)


def multiplied(answer, factor):
    return (answer[0], tuple(times(one, factor) for one in answer[1]))


def with_product(exponents, k):
    """An equation, the product v of all (x - c) ** exponents[c], and two answers whose product v is.

    The answers are the root of v times e to the power of the integral of k / v, and of - k / v.
    """
    v, over, half = UNIT, quotient([k]), ZERO
    for c in exponents:
        pole = (Fraction(c).numerator, Fraction(c).denominator)
        v, over = second.raised(v, pole, exponents[c]), second.raised(over, pole, -exponents[c])
        half = plus(half, root(c, Fraction(exponents[c], 2)))
    one, other = (plus(half, over), (ONE,)), (second.minus(half, over), (ONE,))
    assert led_by(one[0]) == led_by(other[0])
    return led_by(one[0]), v, one, other


class TwoAnswersTest(SameCase):
    def check(self, r, one, other):
        both, told = by_definition(r, one, other)
        result = kept(product_of, r, one, other)
        self.assertSame(result, both)
        self.assertTrue(is_quotient(result) and is_exact(result))
        # A 2-form, by the row of products itself.
        self.assertEqual(row_of_products(r, 2, result)[-1], ZERO)
        self.assertTells(True, is_form, r, 2, result)
        number_told = kept(stays, r, one, other)
        self.assertTrue(is_number(number_told) and number_told != ())
        self.assertSame(told, ((number_told,), ()))
        return result, number_told

    def check_both(self, r, one, other):
        result, told = self.check(r, one, other)
        exchanged, turned = self.check(r, other, one)
        self.assertSame(exchanged, result)
        self.assertSame(turned, taken((), told))
        return result, told

    def test_told(self):
        for r, one, other, both, told in (
            (power(0), GROWING, FALLING, UNIT, -2), (ZERO, (ZERO, (ONE,)), (ZERO, ((), ONE)), quotient([0, 1]), 1),
            (ZERO, (ZERO, ((), ONE)), (ZERO, (ONE, ONE)), quotient([0, 1, 1]), -1),
            (ZERO, (root(0), (ONE,)), (ZERO, (number(3),)), quotient([0, 3]), -3),
            (quotient([], {0: [0, 2]}), (root(0, 2), (ONE,)), (root(0, -1), (ONE,)), quotient([0, 1]), -3),
            (quotient([], {0: [0, 2]}), (root(0, -1), (ONE,)), (root(0, -1), (ONE, (), (), ONE)),
                quotient([0, 1], {0: [0, 1]}), 3),
            # x ** (1/3) and x ** (2/3).
            (quotient([], {0: [0, Fraction(-2, 9)]}), (root(0, Fraction(1, 3)), (ONE,)),
                (root(0, Fraction(2, 3)), (ONE,)), quotient([0, 1]), Fraction(1, 3)),
            (power(-4), (quotient([], {0: [1, 1]}), (ONE,)), (quotient([], {0: [1, -1]}), (ONE,)), quotient([0, 0, 1]),
                -2),
        ):
            self.assertTells(both, product_of, r, one, other)
            self.assertTells(number(told), stays, r, one, other)
            self.check_both(r, one, other)
        root_of_two = (((((2, 1, 1),),), ()), (ONE,))
        other = (((((2, -1, 1),),), ()), (((3, 1, 1),),))
        self.assertTells(((((3, 1, 1),),), ()), product_of, quotient([2]), root_of_two, other)
        self.assertTells(((6, -2, 1),), stays, quotient([2]), root_of_two, other)

    def test_two_plain_and_endless(self):
        for r in TWICE + ALWAYS + ROOTED:
            self.check_both(r, *answers(r))

    def test_multiplied(self):
        for r in TWICE + ALWAYS[:4] + ROOTED:
            one, other = answers(r)
            both, told = self.check(r, one, other)
            for factor in (number(-7), number(Fraction(2, 9)), SURD, ((-1, 1, 1),)):
                more = (multiplied(one, factor), multiplied(other, factor))
                for first, then in ((more[0], other), (one, more[1])):
                    result = self.check_both(r, first, then)
                    self.assertSame(result, (product(both, ((factor,), ())), times(told, factor)))
                result = kept(product_of, r, more[0], more[1])
                self.assertSame(result, product(both, ((times(factor, factor),), ())))

    def test_written_otherwise(self):
        source = random.Random(75)
        for r in TWICE + ALWAYS + ROOTED:
            one, other = answers(r)
            told = (product_of(r, one, other), stays(r, one, other))
            for _ in range(4):
                first, then = written_otherwise(source, one), written_otherwise(source, other)
                self.assertSame(self.check_both(r, first, then), told)
                self.assertSame(self.check(r, first, other), told)
                self.assertSame(self.check(r, one, then), told)

    def test_sums_of_endlessly_many(self):
        source = random.Random(76)
        for r in ALWAYS:
            one, other = answers(r)
            if one[0] != other[0]:
                continue
            for _ in range(5):
                a, b, c, d = (source.randint(-4, 4) for _ in range(4))
                if a * d == b * c:
                    continue
                first, then = [
                    (one[0], plus(scaled((one[1], ()), m), scaled((other[1], ()), n))[0]) for m, n in ((a, b), (c, d))
                ]
                told = kept(stays, r, first, then)
                self.assertSame(told, times(stays(r, one, other), number(a * d - b * c)))
                self.check_both(r, first, then)

    def test_drawn(self):
        source = random.Random(77)
        found = 0
        for _ in range(60):
            exponents = {c: source.choice((-3, -2, -1, 1, 2, 3)) for c in source.sample(range(-4, 5),
                source.randint(0, 3))}
            k = source.choice((1, -2, 3, Fraction(1, 2)))
            r, v, one, other = with_product(exponents, k)
            self.assertSame(self.check_both(r, one, other), (v, number(-2 * k)))
            found += len(r[1]) == 3
        self.assertGreater(found, 8)


class ErrorsTest(SameCase):
    WRONG = makers.ODD_VALUES + (
        (ZERO, (ONE,)), (quotient([1]), ()), (quotient([1]), (ONE, ONE)), [quotient([1]), (ONE,)],
        (quotient([1]), [ONE]),
        (quotient([1]), (ONE,), 1), (quotient([1]),), (quotient([1]), ONE), quotient([1]), (ONE, quotient([1])),
        (quotient([2]), (ONE,)),
    )

    def test_no_equation(self):
        for thing in wrong.EQUATIONS:
            for call in (product_of, stays):
                self.assertBad(BadEquation, thing, call, thing, GROWING, FALLING)
                self.assertBad(BadEquation, thing, call, thing, None, GROWING)
                self.assertBad(BadEquation, thing, call, other=GROWING, one=GROWING, r=thing)

    def test_no_answer(self):
        for call in (product_of, stays):
            for thing in self.WRONG:
                self.assertBad(BadAnswer, thing, call, power(0), thing, FALLING)
                self.assertBad(BadAnswer, thing, call, power(0), GROWING, thing)
                self.assertBad(BadAnswer, thing, call, power(0), thing, [thing])
                self.assertBad(BadAnswer, [thing], call, power(0), other=thing, one=[thing])

    def test_alike(self):
        source = random.Random(78)
        for call in (product_of, stays):
            for r in ONCE + TWICE + ALWAYS:
                for answer in answers(r):
                    self.assertBad(BadAnswer, answer, call, r, answer, answer)
                    more = multiplied(answer, SURD)
                    self.assertBad(BadAnswer, more, call, r, answer, more)
                    self.assertBad(BadAnswer, answer, call, r, more, answer)
                    more = written_otherwise(source, answer)
                    self.assertBad(BadAnswer, more, call, r, answer, more)
                    self.assertBad(BadAnswer, answer, call, r, more, answer)

    def test_answers_of_another_equation(self):
        for call in (product_of, stays):
            for r in TWICE[1:] + ALWAYS:
                one, other = answers(r)
                self.assertBad(BadAnswer, one, call, power(0), one, other)
                self.assertBad(BadAnswer, GROWING, call, r, GROWING, other)
                self.assertBad(BadAnswer, GROWING, call, r, one, GROWING)


class LimitsTest(SameCase):
    def test_four_poles_of_high_orders(self):
        for exponents in (
            {Fraction(-19, 20): 3, Fraction(1, 17): 2, Fraction(20, 7): -4, 3: -4},
            {Fraction(-19, 20): 3, Fraction(1, 17): 3, Fraction(20, 7): 3, 3: 3},
            {-1: -6, 0: 1, Fraction(20, 7): -1, 3: 3},
        ):
            r, v, one, other = with_product(exponents, Fraction(7, 991))
            self.assertEqual(len(r[1]), 4)
            self.assertSame(kept(product_of, r, one, other), v)
            self.assertSame(kept(stays, r, one, other), number(Fraction(-14, 991)))
        self.assertEqual([len(row) for _, row in r[1]], [2, 2, 2, 6])
        self.assertEqual(len(r[0]), 7)

    def test_long_polynomials(self):
        for n in (Fraction(25, 2), Fraction(-25, 2)):
            one, other = answers(bessel(n))
            self.assertEqual([len(one[1]), len(other[1])], [13, 13])
            told = kept(product_of, bessel(n), one, other)
            self.assertTells(True, is_form, bessel(n), 2, told)
            # Far away the two are e to the power of i x and of - i x, the roots of -1 being i and - i.
            self.assertSame(kept(stays, bessel(n), one, other), ((-1, -2, 1),))

    def test_unlike_exponents(self):
        # x ** 32 and x ** -31, of which all sums are answers.
        r = quotient([], {Fraction(20, 19): [0, 992]})
        one, other = (root(Fraction(20, 19), 32), (ONE,)), (root(Fraction(20, 19), -31), (ONE,))
        self.assertTells(number(-63), stays, r, one, other)
        self.assertTells((linear(Fraction(20, 19)), ()), product_of, r, one, other)


if __name__ == "__main__":
    unittest.main()
