"""7.3: the equations that the slopes over themselves of answers solve."""

import random
import unittest
from fractions import Fraction
from math import factorial

import makers
import second
import wrong
from equations import ONE, ZERO, bessel, number, power, quotient, scaled, square_equation, three_points
from same import SameCase, is_exact, kept
from test_answers import ALWAYS, TWICE
from test_pairs import ROOTED
from test_spaces import MANY
from twiceslope.errors import BadDegree, BadEquation, BadForm
from twiceslope.forms import judge_forms, row_of_products
from twiceslope.putin import equation_holds, product_of, slopes_equation
from twiceslope.quotients import is_quotient, plus, product, slope
from twiceslope.slopes import answers

SURD = ((-6, 1, 2), (1, -3, 1))
TWO, LESS = number(2), number(-1)
UNIT, X = quotient([1]), quotient([0, 1])
ROOT = quotient([], {0: [1, Fraction(-3, 16)]})
HALF = Fraction(1, 2)


def rule_holds(r, m, told):
    """Whether a tuple of quotients is an equation of the slopes by the rule of 7.3."""
    padded = [ZERO] + list(told) + [ZERO, ZERO]
    for i in range(m + 2):
        below, here, above = padded[i], padded[i + 1], padded[i + 2] if i + 2 < len(padded) else ZERO
        total = plus(slope(here), plus(scaled(product(r, above), i + 1), scaled(below, m - i + 1)))
        if total != ZERO:
            return False
    return told[m] != ZERO


def told_forms(least=2, most=8):
    """Triples of an equation, a degree and a form."""
    found = []
    for r, m, many in MANY:
        if many and least <= m <= most:
            forms = judge_forms(r, m)[1]
            found.append((r, m, forms[0]))
            if many > 1:
                more = plus(forms[0], product(forms[-1], ((SURD,), ())))
                found.append((r, m, more))
    return found


FORMS = told_forms()


class EquationTest(SameCase):
    def check(self, r, m, u):
        told = kept(slopes_equation, r, m, u)
        self.assertEqual(len(told), m + 1)
        self.assertSame(told[m], u)
        self.assertTrue(all(is_quotient(one) and is_exact(one) for one in told))
        self.assertTrue(rule_holds(r, m, told))
        row = row_of_products(r, m, u)
        for i in range(m + 1):
            self.assertSame(told[m - i], scaled(row[i], Fraction((-1) ** i, factorial(i))))
        self.assertTells(True, equation_holds, r, m, told)
        return told

    def test_told(self):
        self.assertTells((quotient([-1]), ZERO, UNIT), slopes_equation, power(0), 2, UNIT)
        # The product of (w - 1) and (w + 1), squared.
        self.assertTells((UNIT, ZERO, quotient([-2]), ZERO, UNIT), slopes_equation, power(0), 4, UNIT)
        # x * x has 1 / x as its slope over itself, twice: (x w - 1) ** 2.
        told = (UNIT, quotient([0, -2]), quotient([0, 0, 1]))
        self.assertTells(told, slopes_equation, ZERO, 2, quotient([0, 0, 1]))
        self.assertTells((ZERO, quotient([-1]), X), slopes_equation, ZERO, 2, X)
        told = slopes_equation(ROOT, 4, X)
        self.assertSame(told[3:], (quotient([-1]), X))
        self.assertSame(told[1], quotient([], {0: [1, Fraction(-1, 16)]}))

    def test_degrees(self):
        found = set()
        for r, m, u in FORMS:
            self.check(r, m, u)
            found.add(m)
        self.assertEqual(found, {2, 4, 6, 8})

    def test_multiplied(self):
        for r, m, u in FORMS:
            for factor in (number(-3), number(Fraction(2, 7)), SURD):
                told = self.check(r, m, product(u, ((factor,), ())))
                self.assertSame(told, tuple(product(one, ((factor,), ())) for one in slopes_equation(r, m, u)))

    def test_products(self):
        """The slopes over themselves of two answers solve the equation of each product of them."""
        for r in TWICE + ALWAYS + ROOTED:
            one, other = answers(r)
            u = product_of(r, one, other)
            for m, form in ((2, u), (4, product(u, u)), (6, product(u, product(u, u)))):
                told = self.check(r, m, form)
                for t, whole in (one, other):
                    # The equation times the polynomial to the power m, w times the polynomial being t P + P'.
                    above = plus(product(t, (whole, ())), slope((whole, ())))
                    total, powers = ZERO, UNIT
                    for item in told:
                        total = plus(product(total, (whole, ())), product(item, powers))
                        powers = product(powers, above)
                    self.assertEqual(total, ZERO)

    def test_higher_degrees(self):
        for r, m, u in told_forms(10, 12):
            self.check(r, m, u)

    def test_errors(self):
        for thing in wrong.EQUATIONS:
            for m, u in ((4, X), (None, None), (5, [])):
                self.assertBad(BadEquation, thing, slopes_equation, thing, m, u)
                self.assertBad(BadEquation, thing, slopes_equation, u=u, m=m, r=thing)
        for thing in wrong.DEGREES:
            for u in (X, None, ZERO):
                self.assertBad(BadDegree, thing, slopes_equation, ROOT, thing, u)
        for r, m, u in FORMS:
            for thing in makers.ODD_VALUES + (ZERO, (), u[0], [u], (u,), list(u), (u[0], list(u[1])), u + ((),)):
                self.assertBad(BadForm, thing, slopes_equation, r, m, thing)

    def test_no_form(self):
        for r, m, u in ((ROOT, 4, UNIT), (ROOT, 2, X), (ROOT, 8, X), (power(1), 4, UNIT), (power(0), 2, X),
            (ZERO, 2, quotient([0, 0, 0, 1]))):
            self.assertBad(BadForm, u, slopes_equation, r, m, u)
        for r, m, u in FORMS:
            more = plus(u, quotient([], {7: [1]}))
            self.assertBad(BadForm, more, slopes_equation, r, m, more)


class HoldsTest(SameCase):
    def bad(self, r, m, thing):
        self.assertTells(False, equation_holds, r, m, thing)

    def test_one_item_changed(self):
        steps = (UNIT, X, quotient([], {0: [1]}), ((SURD,), ()), quotient([], {HALF: [0, -3]}))
        for r, m, u in FORMS:
            told = slopes_equation(r, m, u)
            for k in range(m + 1):
                others = [plus(told[k], step) for step in steps]
                others += [product(told[k], ((factor,), ())) for factor in (TWO, LESS, SURD)]
                for other in others + [ZERO]:
                    thing = told[:k] + (other,) + told[k + 1:]
                    # All items are told by the last one; it alone may be another one, where all others are zero.
                    if other != told[k] and (k < m or not rule_holds(r, m, thing)):
                        self.bad(r, m, thing)

    def test_many_items(self):
        for r, m, u in FORMS:
            told = slopes_equation(r, m, u)
            for thing in (told[1:], told[:-1], told + (ZERO,), (ZERO,) + told, told + told[-1:], (), told[::-1][:m],
                (told,)):
                self.bad(r, m, thing)
            for n in (2, 4, 6, 8, 10, 12):
                if n != m:
                    self.bad(r, n, told)

    def test_zero_at_the_end(self):
        for r, m, u in FORMS:
            told = slopes_equation(r, m, u)
            self.bad(r, m, told[:m] + (ZERO,))
            self.bad(r, m, (ZERO,) * (m + 1))

    def test_kinds(self):
        for r, m, u in FORMS[::3]:
            told = slopes_equation(r, m, u)
            for thing in makers.ODD_VALUES + (list(told), {k: one for k, one in enumerate(told)}):
                self.bad(r, m, thing)
                for k in range(m + 1):
                    self.bad(r, m, told[:k] + (thing,) + told[k + 1:])
            for k in range(m + 1):
                whole, tails = told[k]
                for item in ([whole, tails], (list(whole), tails), (whole, list(tails)), (whole,),
                    (whole + ((),), tails)):
                    self.bad(r, m, told[:k] + (item,) + told[k + 1:])
        self.assertTells(True, equation_holds, power(0), 2, (quotient([-1]), ZERO, UNIT))
        self.bad(power(0), 2, (quotient([-1]), ZERO, ((((True, True, True),),), ())))
        self.bad(power(0), 2, (quotient([-1]), ZERO, ((((1, 1, True),),), ())))
        self.bad(power(0), 2, (quotient([-1]), (False, ()), UNIT))
        self.bad(ZERO, 2, (ZERO, ZERO, ZERO))

    def test_of_other_equations(self):
        for r, m, u in FORMS:
            told = slopes_equation(r, m, u)
            for other in (power(1), bessel(Fraction(1, 3)), plus(r, UNIT), plus(r, quotient([], {9: [1]}))):
                self.assertSame(equation_holds(other, m, told), rule_holds(other, m, told))

    def test_spoiled(self):
        source = random.Random(79)
        for r, m, u in FORMS:
            told = slopes_equation(r, m, u)
            for _ in range(15):
                thing = makers.spoiled(source, told)
                right = type(thing) is tuple and len(thing) == m + 1
                right = right and all(second.oracle.is_quotient(one) for one in thing) and rule_holds(r, m, thing)
                self.assertSame(kept(equation_holds, r, m, thing), right)

    def test_errors(self):
        told = slopes_equation(ROOT, 4, X)
        for thing in wrong.EQUATIONS:
            for m, more in ((4, told), (None, None), (5, [])):
                self.assertBad(BadEquation, thing, equation_holds, thing, m, more)
        for thing in wrong.DEGREES:
            for more in (told, None, ()):
                self.assertBad(BadDegree, thing, equation_holds, ROOT, thing, more)


class LimitsTest(SameCase):
    def test_large(self):
        r = square_equation({Fraction(-19, 20): 5, Fraction(1, 17): 1, Fraction(20, 7): -6}, Fraction(997, 3))
        u = judge_forms(r, 4)[1][0]
        told = kept(slopes_equation, r, 8, product(u, u))
        self.assertTrue(rule_holds(r, 8, told))
        self.assertTells(True, equation_holds, r, 8, told)
        self.bad_step(r, 8, told)

    def test_full_room(self):
        # All twelve exponents of a room are taken: (x + root) ** 8 is the product of 8 answers of zero.
        u = UNIT
        for _ in range(8):
            u = product(u, ((SURD, ONE), ()))
        told = kept(slopes_equation, ZERO, 8, u)
        self.assertTrue(rule_holds(ZERO, 8, told))
        self.bad_step(ZERO, 8, told)
        r = three_points(HALF, Fraction(1, 3), Fraction(7, 4))
        u = judge_forms(r, 8)[1][0]
        self.assertTrue(rule_holds(r, 8, kept(slopes_equation, r, 8, u)))

    def bad_step(self, r, m, told):
        for k in range(m + 1):
            thing = told[:k] + (plus(told[k], quotient([0] * 7 + [1])),) + told[k + 1:]
            self.assertTells(False, equation_holds, r, m, thing)


if __name__ == "__main__":
    unittest.main()
