"""5.1: rows of products, and which quotients are forms."""

import random
import unittest
from fractions import Fraction

import makers
import oracle
import second
import wrong
from equations import ONE, ZERO, bessel, led_by, linear, number, power, quotient, root, scaled, square_equation, total
from equations import three_points
from same import SameCase, kept
from twiceslope.errors import BadDegree, BadEquation, BadQuotient
from twiceslope.forms import is_form, judge_forms, row_of_products
from twiceslope.quotients import plus, product, slope

DEGREES = (2, 4, 6, 8, 10, 12)
UNIT, X = ((ONE,), ()), (((), ONE), ())
ROOT = ((((2, 1, 1),),), ())
ROOT_EQUATION = quotient([], {0: [1, Fraction(-3, 16)]})


def raised_pole(c, k):
    """1 / (x - c) ** k."""
    return quotient([], {c: [0] * (k - 1) + [1]})


SQUARES = (
    (power(0), UNIT, 2), (ROOT_EQUATION, X, 4),
    (square_equation({0: 1, 1: -2}, Fraction(3, 2)), quotient([], {1: [1, 1]}), 4),
    (square_equation({0: 2, Fraction(1, 2): 1}, -7), quotient([0, 0, Fraction(-1, 2), 1]), 4),
    (square_equation({-1: -3, 2: 1}, 5), quotient([], {-1: [0, 1, -3]}), 4),
    (square_equation({-1: -3, 1: -3}, 5), product(raised_pole(-1, 3), raised_pole(1, 3)), 4),
    (square_equation({Fraction(2, 3): -5}, 5), raised_pole(Fraction(2, 3), 5), 4),
    (square_equation({2: 2, 0: -1, 1: -1}, 5), quotient([1], {0: [-4], 1: [1]}), 4),
    # y y = x * x * (x - 1), where the pole at 0 has the order 1.
    (led_by(quotient([], {0: [1], 1: [Fraction(1, 2)]})), quotient([0, 0, -1, 1]), 2),
)


def raised(u, k):
    told = UNIT
    for _ in range(k):
        told = product(told, u)
    return told


def monomial(k):
    """x ** k, k an integer."""
    return quotient([0] * k + [1]) if k >= 0 else raised_pole(0, -k)


def series_row(r, m, u, c, many):
    """The first numbers at the Fraction c of each quotient of the row, by series alone."""
    length = many + m + 2
    base = oracle.row_at(r, c, length)
    base = [{} for _ in range(base[0])] + base[1]
    first = oracle.row_at(u, c, length)
    rows = [[{} for _ in range(first[0])] + first[1] + [{} for _ in range(length)]]
    rows = [rows[0][:length]]
    rows.append(slopes_of(rows[0]))
    for i in range(1, m + 1):
        back = oracle.series_product(base or [{}], rows[i - 1], length - i - 1)
        ahead = slopes_of(rows[i])
        factor = oracle.rational(-i * (m - i + 1))
        rows.append([oracle.add(one, oracle.multiply(factor, other)) for one, other in zip(ahead, back)])
    return [row[:many] for row in rows]


def slopes_of(series):
    return [oracle.multiply(oracle.rational(k), series[k]) for k in range(1, len(series))]


class RowTest(SameCase):
    def check(self, r, m, u):
        told = kept(row_of_products, r, m, u)
        self.assertEqual(len(told), m + 2)
        self.assertSame(told[0], u)
        self.assertSame(told[1], slope(u))
        for i in range(1, m + 1):
            back = scaled(product(r, told[i - 1]), -i * (m - i + 1))
            self.assertSame(told[i + 1], plus(slope(told[i]), back))
        return told

    def test_drawn(self):
        source = random.Random(51)
        for m in DEGREES:
            for _ in range(4):
                r = makers.plain_quotient(source, source.randint(-1, 2), [source.randint(1, 3)] * source.randint(0, 2), 1)
                self.check(r, m, makers.quotient(source, source.randint(-1, 3), [source.randint(1, 3)], 2, 1))

    def test_series(self):
        source = random.Random(52)
        for m in (2, 4, 8):
            r = makers.plain_quotient(source, 2, [2, 1], 1)
            u = makers.quotient(source, 2, [1, 2], 2, 1)
            c = oracle.points(1, oracle.poles(r, u))[0]
            told = kept(row_of_products, r, m, u)
            for one, numbers in zip(told, series_row(r, m, u, c, 3)):
                k, row = oracle.row_at(one, c, 3)
                self.assertEqual(([{} for _ in range(k)] + row + [{}] * 3)[:3], numbers)

    def test_zero(self):
        for m in DEGREES:
            self.assertTells((ZERO,) * (m + 2), row_of_products, bessel(2), m, ZERO)
            told = (UNIT,) + (ZERO,) * (m + 1)
            self.assertTells(told, row_of_products, ZERO, m, UNIT)

    def test_roots(self):
        u = ((((2, 1, 1),),), (((1, 1), (((1, 1, 1), (3, 1, 1)),)),))
        self.check(bessel(Fraction(1, 3)), 4, u)
        told = row_of_products(power(0), 2, ROOT)
        self.assertSame(told, (ROOT, ZERO, scaled(ROOT, -2), ZERO))

    def test_errors(self):
        for thing in wrong.EQUATIONS:
            for m, u in ((4, UNIT), (None, None)):
                self.assertBad(BadEquation, thing, row_of_products, thing, m, u)
        for thing in wrong.DEGREES:
            for u in (UNIT, None, (UNIT,)):
                self.assertBad(BadDegree, thing, row_of_products, power(1), thing, u)
        for thing in makers.ODD_VALUES + ((ONE, ()), ((ONE,),), [(ONE,), ()], ((ONE, ()), ()), ((), (((0, 2), (ONE,)),))):
            self.assertBad(BadQuotient, thing, row_of_products, power(1), 4, thing)


class IsFormTest(SameCase):
    def test_squares(self):
        for r, u, m in SQUARES:
            for k in range(1, 12 // m + 1):
                self.assertTells(True, is_form, r, m * k, raised(u, k))
                self.assertTells(False, is_form, r, m * k, plus(raised(u, k), root(7)))
            self.assertTells(True, is_form, r, m, scaled(u, Fraction(-5, 3)))
            self.assertTells(True, is_form, r, m, product(u, ((((2, 1, 1), (3, 1, 1)),), ())))

    def test_powers_of_x(self):
        # x * x and 1 / x are answers, so all x ** (2 a - b) with a + b = m are forms.
        r = quotient([], {0: [0, 2]})
        for m in DEGREES:
            told = [2 * a - (m - a) for a in range(m + 1)]
            for k in range(-m - 1, 2 * m + 2):
                self.assertTells(k in told, is_form, r, m, monomial(k))
            source = random.Random(m)
            u = total(scaled(monomial(k), source.randint(-5, 5)) for k in told)
            self.assertTells(u != ZERO, is_form, r, m, u)
            self.assertTells(True, is_form, r, m, plus(monomial(told[0]), product(ROOT, monomial(told[-1]))))
            self.assertTells(False, is_form, r, m, plus(monomial(told[0]), product(ROOT, monomial(told[0] + 1))))

    def test_sums_and_products(self):
        for r in (three_points(Fraction(1, 2), Fraction(1, 3), Fraction(1, 3)), SQUARES[2][0],
                  three_points(Fraction(1, 2), Fraction(1, 2), Fraction(1, 2)), quotient([], {0: [0, 2], 1: [0, 0, 0, 0]})):
            forms = {m: told[1] for m in DEGREES for told in [judge_forms(r, m)] if told[0] == "forms"}
            self.assertTrue(forms)
            for m in forms:
                u = total(scaled(one, k + 1) for k, one in enumerate(forms[m]))
                self.assertTells(True, is_form, r, m, u)
                for n in forms:
                    if m + n <= 12:
                        self.assertTells(True, is_form, r, m + n, product(u, forms[n][0]))
                    if n != m:
                        self.assertSame(is_form(r, n, u), row_of_products(r, n, u)[-1] == ZERO)

    def test_none(self):
        for m in DEGREES:
            for u in (ZERO, UNIT, X, monomial(-1), monomial(m), root(3), plus(UNIT, root(0))):
                self.assertTells(False, is_form, power(1), m, u)
                self.assertSame(kept(is_form, ZERO, m, u), u in (UNIT, X, monomial(m)))
            self.assertTells(False, is_form, ZERO, m, monomial(m + 1))

    def test_other_poles(self):
        for r, u, m in SQUARES:
            self.assertTells(False, is_form, r, m, product(u, quotient([], {9: [1]})))
            self.assertTells(False, is_form, r, m, product(u, (linear(9), ())))

    def test_by_definition(self):
        source = random.Random(53)
        right = 0
        for r, u, m in SQUARES + tuple((ZERO, monomial(3), m) for m in (2, 4, 6)):
            for _ in range(60):
                thing = makers.spoiled(source, u)
                told = kept(is_form, r, m, thing)
                self.assertSame(told, second.is_form(r, m, thing))
                right += told
        self.assertGreater(right, 20)

    def test_any_value(self):
        for thing in makers.ODD_VALUES + ((ONE, ()), [UNIT], list(UNIT), UNIT + ((),), (((1,),), ()), "x"):
            for m in (2, 12):
                self.assertTells(False, is_form, ZERO, m, thing)
                self.assertTells(False, is_form, power(0), m, thing)

    def test_errors(self):
        for thing in wrong.EQUATIONS:
            self.assertBad(BadEquation, thing, is_form, thing, None, UNIT)
        for thing in wrong.DEGREES:
            self.assertBad(BadDegree, thing, is_form, power(0), thing, UNIT)
            self.assertBad(BadDegree, thing, is_form, power(0), thing, None)


class LimitsTest(SameCase):
    def test_rows(self):
        source = random.Random(54)
        r = makers.plain_quotient(source, 6, [6, 6, 6], 3)
        for u in (makers.plain_quotient(source, 8, [6, 6, 6, 6], 8), makers.quotient(source, 8, [6, 1], 2, 2),
                  (makers.plain_row(source, 41), ())):
            told = row_of_products(r, 12, u)
            back = scaled(product(r, told[11]), -12)
            self.assertSame(told[13], plus(slope(told[12]), back))
            self.assertIs(is_form(r, 12, u), False)

    def test_high_forms(self):
        # The forms of this one have poles of the order 38 or a whole of the degree 38.
        k = Fraction(19)
        r = quotient([], {Fraction(-19, 20): [0, k * (k + 1)]})
        told = scaled(UNIT, 1)
        for _ in range(38):
            told = product(told, quotient([], {Fraction(-19, 20): [1]}))
        self.assertTells(True, is_form, r, 2, told)
        self.assertTells(False, is_form, r, 4, told)
        self.assertTells(True, is_form, r, 2, raised((linear(Fraction(-19, 20)), ()), 40))
        self.assertTells(False, is_form, r, 2, raised((linear(Fraction(-19, 20)), ()), 39))


if __name__ == "__main__":
    unittest.main()
