"""7.4: forms that are squares of products of two answers."""

import random
import unittest
from fractions import Fraction

import makers
import wrong
from equations import ONE, ZERO, bessel, number, power, quotient, scaled, square_equation as equation_with_square
from equations import three_points, total
from same import SameCase, kept
from second import minus, raised
from test_answers import ALWAYS, TWICE
from test_pairs import ROOTED
from test_spaces import MANY
from twiceslope.errors import BadEquation, BadForm
from twiceslope.forms import judge_forms
from twiceslope.numbers import times
from twiceslope.putin import product_of, slopes_equation, square_equation, square_number
from twiceslope.quotients import plus, product, slope
from twiceslope.slopes import answers
from twiceslope.verdict import verdict

HALF, THIRD = Fraction(1, 2), Fraction(1, 3)
SURD = ((-6, 1, 2), (1, -3, 1))
UNIT, X = quotient([1]), quotient([0, 1])
ROOT = quotient([], {0: [1, Fraction(-3, 16)]})
EIGHTS = (three_points(HALF, HALF, HALF), three_points(HALF, -HALF, 3 * HALF), three_points(3 * HALF, HALF, HALF))
# The squares of products among the 4-forms of the first one.
THREE = (quotient([0, -1, 1]), quotient([0, 0, -1, 1]), quotient([0, 1, -2, 1]))
# The exponents of 4-forms, and numbers: the answers have v' / (4 v) and more or less a root of k / v as their slopes.
SQUARES = (
    ({0: 1}, 1), ({0: 1}, -2), ({0: 1, 1: -2}, Fraction(3, 2)), ({0: 2, HALF: 1}, -7), ({-1: -3, 2: 1}, 5),
    ({-1: -3, 1: -3}, 5), ({Fraction(2, 3): -5}, 5), ({2: 2, 0: -1, 1: -1}, 5), ({0: 3, 1: 1, -1: -1}, THIRD),
    ({-2: 1, -1: 1, 0: 1}, Fraction(-4, 9)),
)


def form_with(exponents):
    v = UNIT
    for c in exponents:
        v = raised(v, (Fraction(c).numerator, Fraction(c).denominator), exponents[c])
    return v


def times_number(u, factor):
    return product(u, ((factor,), ()))


def terms(r, u):
    """3 u' u' - 4 u u'' + 16 r u u."""
    first = slope(u)
    told = minus(scaled(product(first, first), 3), scaled(product(u, slope(first)), 4))
    return plus(told, scaled(product(r, product(u, u)), 16))


class NumberTest(SameCase):
    def check(self, r, u):
        """The number is right, or no number is."""
        k = kept(square_number, r, u)
        if k is None:
            told = terms(r, u)
            # No number other than 0 leads from u to the other one: they are not proportional, or that is zero.
            self.assertFalse(told != ZERO and proportional(told, u))
        else:
            self.assertNotEqual(k, ())
            self.assertSame(terms(r, u), times_number(u, k))
        return k

    def test_told(self):
        self.assertTells(number(16), square_number, ROOT, X)
        self.assertTells(number(16), square_number, power(0), UNIT)
        self.assertTells(number(-16), square_number, power(0), quotient([-1]))
        self.assertTells(number(4), square_number, ZERO, quotient([0, 0, 1]))
        for told in ([1], [0, 1], [0, 0, 0, 1], [0, 0, 0, 0, 1], [1, 0, 0, 0, 1], [1, 2, 1, 1]):
            self.assertTells(None, square_number, ZERO, quotient(told))
        # x * x * (x + 1) * (x + 1), the square of the product of x and x + 1.
        self.assertTells(number(4), square_number, ZERO, quotient([0, 0, 1, 2, 1]))
        # The product of x and x + the root of 2, the square of what stays being 2 too.
        self.assertTells(number(8), square_number, ZERO, (((), (), number(2), ((2, 2, 1),), ONE), ()))

    def test_squares(self):
        for exponents, k in SQUARES:
            r, v = equation_with_square(exponents, k), form_with(exponents)
            self.assertTells(number(16 * Fraction(k)), square_number, r, v)
            self.assertEqual(self.check(r, v), number(16 * Fraction(k)))

    def test_multiplied(self):
        """With k for u there is 3 k for 3 u: the squares on the left side are 9 times as large, k u is 3 times so."""
        for exponents, k in SQUARES:
            r, v = equation_with_square(exponents, k), form_with(exponents)
            for factor in (number(2), number(-1), number(Fraction(3, 7)), SURD, ((-1, 1, 1),), ((2, 1, 1), (3, -1, 5))):
                told = times(number(16 * Fraction(k)), factor)
                self.assertTells(told, square_number, r, times_number(v, factor))
                self.check(r, times_number(v, factor))

    def test_each_form_of_the_verdict_square(self):
        source = random.Random(80)
        for exponents, k in SQUARES:
            r = equation_with_square(exponents, k)
            self.assertEqual(verdict(r), "square")
            forms = judge_forms(r, 4)[1]
            self.assertEqual(len(forms), 1)
            self.assertIsNotNone(self.check(r, scaled(forms[0], Fraction(source.randint(1, 9), 7))))

    def test_just_three_of_the_verdict_eight(self):
        for r in EIGHTS:
            self.assertEqual(verdict(r), "eight")
            first, second = judge_forms(r, 4)[1]
            found = []
            for m in range(-12, 13):
                for n in range(13):
                    if m or n:
                        u = total((scaled(first, m), scaled(second, n)))
                        if self.check(r, u) is not None and not any(proportional(u, one) for one in found):
                            found.append(u)
            self.assertLessEqual(len(found), 3)
            if r == EIGHTS[0]:
                self.assertTrue(all(any(proportional(u, one) for one in found) for u in THREE))
        for more in ([1, 1], [-2, 1], [1, -3]):
            self.assertTells(None, square_number, EIGHTS[0], product(THREE[0], quotient(more)))
        self.assertTells(None, square_number, EIGHTS[0], product(THREE[0], ((SURD, ONE), ())))

    def test_products(self):
        for r in TWICE + ALWAYS + ROOTED:
            one, other = answers(r)
            u = product_of(r, one, other)
            told = self.check(r, product(u, u))
            self.assertIsNotNone(told)
            more = self.check(r, times_number(product(u, u), SURD))
            self.assertSame(more, times(told, SURD))

    def test_all_forms(self):
        found = {True: 0, False: 0}
        for r, m, many in MANY:
            if m == 4 and many:
                forms = judge_forms(r, 4)[1]
                for u in forms + (total(forms), times_number(forms[0], SURD),
                    plus(forms[-1], times_number(forms[0], SURD))):
                    if u != ZERO:
                        found[self.check(r, u) is None] += 1
        self.assertGreater(min(found.values()), 5)

    def test_no_equation(self):
        for thing in wrong.EQUATIONS:
            for call in (square_number, square_equation):
                for u in (X, None, ZERO):
                    self.assertBad(BadEquation, thing, call, thing, u)

    def test_no_form(self):
        for call in (square_number, square_equation):
            for thing in makers.ODD_VALUES + (ZERO, UNIT, (), [X], (X,), list(X), (X[0], []), (X[0],), X + ((),),
                plus(X, UNIT)):
                self.assertBad(BadForm, thing, call, ROOT, thing)
                self.assertBad(BadForm, thing, call, u=thing, r=ROOT)
            for u in (X, product(X, X), product(X, product(X, X)), quotient([], {0: [1]})):
                self.assertBad(BadForm, u, call, power(0), u)
                self.assertBad(BadForm, u, call, power(1), u)
                self.assertBad(BadForm, u, call, bessel(THIRD), u)
            # 2-forms and 8-forms are no 4-forms.
            self.assertBad(BadForm, product(X, X), call, ROOT, product(X, X))
            r = three_points(HALF, HALF, Fraction(2, 5))
            u = judge_forms(r, 4)[1][0]
            self.assertBad(BadForm, product(u, u), call, r, product(u, u))


def proportional(one, other):
    """Whether two quotients other than zero are multiples of each other."""
    return minus(product(one, slope(other)), product(other, slope(one))) == ZERO


class EquationTest(SameCase):
    def check(self, r, u):
        low, middle, high = told = kept(square_equation, r, u)
        self.assertEqual(len(told), 3)
        self.assertSame(high, scaled(product(u, u), 8))
        self.assertSame(middle, scaled(product(u, slope(u)), -4))
        first = slope(u)
        more = minus(scaled(product(u, slope(first)), 2), product(first, first))
        self.assertSame(low, minus(more, scaled(product(r, product(u, u)), 8)))
        self.check_put_in(r, low, middle, high)
        return told

    def check_put_in(self, r, low, middle, high):
        """Both w with low + middle w + high w w = 0 have w' + w w = r, and they are two.

        The slope of that sum, r - w w being put in for w', times high, with high w w = - low - middle w put in twice.
        """
        constant = minus(product(high, plus(slope(low), product(middle, r))), product(low, minus(slope(high), middle)))
        constant = minus(constant, scaled(product(low, middle), 2))
        self.assertEqual(constant, ZERO)
        linear = product(high, plus(slope(middle), scaled(product(high, r), 2)))
        linear = minus(linear, product(middle, minus(slope(high), middle)))
        linear = minus(linear, scaled(minus(product(middle, middle), product(low, high)), 2))
        self.assertEqual(linear, ZERO)
        self.assertNotEqual(minus(product(middle, middle), scaled(product(low, high), 4)), ZERO)

    def test_told(self):
        told = (quotient([HALF, -8]), quotient([0, -4]), quotient([0, 0, 8]))
        self.assertTells(told, square_equation, ROOT, X)
        self.assertTells((quotient([-8]), ZERO, quotient([8])), square_equation, power(0), UNIT)
        self.assertTells((quotient([-32]), ZERO, quotient([32])), square_equation, power(0), quotient([-2]))

    def test_squares(self):
        for exponents, k in SQUARES:
            r, v = equation_with_square(exponents, k), form_with(exponents)
            for factor in (number(1), number(Fraction(-5, 3)), SURD):
                u = times_number(v, factor)
                self.check(r, u)
                self.check_against_slopes(r, u)

    def check_against_slopes(self, r, u):
        """Its square is the equation of the slopes of u times 64 u u u."""
        low, middle, high = square_equation(r, u)
        both = scaled(product(low, high), 2)
        told = (
            product(low, low), scaled(product(low, middle), 2), plus(product(middle, middle), both),
            scaled(product(middle, high), 2), product(high, high),
        )
        cube = scaled(product(u, product(u, u)), 64)
        self.assertSame(told, tuple(product(cube, one) for one in slopes_equation(r, 4, u)))

    def test_eight(self):
        r = EIGHTS[0]
        for u in THREE:
            self.check(r, u)
            self.check_against_slopes(r, u)

    def test_products(self):
        for r in TWICE + ALWAYS + ROOTED:
            one, other = answers(r)
            both = product_of(r, one, other)
            low, middle, high = self.check(r, product(both, both))
            for t, whole in (one, other):
                above, below = plus(product(t, (whole, ())), slope((whole, ()))), (whole, ())
                parts = (product(low, product(below, below)), product(middle, product(above, below)),
                    product(high, product(above, above)))
                self.assertEqual(total(parts), ZERO)

    def test_no_number(self):
        for told in ([1], [0, 1], [0, 0, 0, 1], [1, 0, 0, 0, 1]):
            u = quotient(told)
            self.assertTells(None, square_number, ZERO, u)
            self.assertBad(BadForm, u, square_equation, ZERO, u)
        r = EIGHTS[0]
        for more in ([1, 1], [-2, 1], [1, -3]):
            u = product(quotient([0, -1, 1]), quotient(more))
            self.assertBad(BadForm, u, square_equation, r, u)
        for r, m, many in MANY:
            if m == 4 and many:
                for u in judge_forms(r, 4)[1]:
                    if square_number(r, u) is None:
                        self.assertBad(BadForm, u, square_equation, r, u)
                    else:
                        self.check(r, u)


class LimitsTest(SameCase):
    def test_large(self):
        exponents = {Fraction(-19, 20): 5, Fraction(1, 17): 1, Fraction(20, 7): -6}
        r, v = equation_with_square(exponents, Fraction(997, 3)), form_with(exponents)
        self.assertTells(number(Fraction(16 * 997, 3)), square_number, r, v)
        EquationTest.check(self, r, v)

    def check_put_in(self, *told):
        EquationTest.check_put_in(self, *told)


if __name__ == "__main__":
    unittest.main()
