"""5.2: bounds, rooms and equations."""

import random
import unittest
from fractions import Fraction

import makers
import second
import wrong
from equations import ZERO, bessel, led_by, number, power, quotient, square_equation, three_points, whittaker
from same import SameCase, kept
from twiceslope.errors import BadDegree, BadEquation, BadPlace
from twiceslope.forms import bounds, equation, is_form
from twiceslope.points import exponents_at, exponents_far, orders

DEGREES = (2, 4, 6, 8, 10, 12)
HALF = Fraction(1, 2)
ROOM = (
    (ZERO, 2), (ZERO, 12), (power(0), 4), (power(-2), 4), (power(-4), 6), (bessel(HALF), 4), (bessel(Fraction(5, 2)), 4),
    (quotient([], {0: [1, Fraction(-3, 16)]}), 8), (three_points(HALF, Fraction(1, 3), Fraction(1, 3)), 6),
    (three_points(HALF, HALF, HALF), 4), (three_points(HALF, HALF, Fraction(2, 5)), 4), (whittaker(2, 3), 4),
    (three_points(Fraction(3, 2), Fraction(1, 3), Fraction(-2, 3)), 12), (whittaker(2, 3), 2), (whittaker(2, 2), 4),
    (quotient([1], {0: [1]}), 2), (quotient([Fraction(2, 3)], {Fraction(-1, 2): [1, Fraction(7, 5)], 1: [3, 6]}), 2),
    (quotient([], {0: [0, 0, 0, 3], 1: [0, 12]}), 2), (quotient([], {0: [0, 0, 2], Fraction(1, 3): [1, 6]}), 4),
    (quotient([1, 2, 3], {0: [2, 20], 2: [1, 1, Fraction(1, 7), 2]}), 2), (square_equation({0: 1, 1: -2}, 2), 4),
    (quotient([], {0: [3, 0, 0, 0, 0, 1], 2: [0, 2], 1: [-3, 6]}), 2), (led_by(quotient([0, 2], {0: [-2], 1: [-1]})), 2),
    (quotient([], {Fraction(-19, 20): [Fraction(5, 7)], Fraction(3, 17): [Fraction(-5, 7)], 20: [1]}), 12),
)


def greatest(told):
    return max(len(column) for column in told)


class BoundsTest(SameCase):
    def test_told(self):
        self.assertTells(((), 12), bounds, ZERO, 12)
        self.assertTells(((), -1), bounds, power(1), 4)
        self.assertTells(None, bounds, power(1), 2)
        self.assertTells(((((0, 1), -2),), 2), bounds, quotient([1], {0: [0, 2]}), 2)
        self.assertTells(((((0, 1), 3),), -3), bounds, quotient([1], {0: [0, 0, 1]}), 4)
        self.assertTells(None, bounds, quotient([1], {0: [0, 0, 1]}), 6)
        self.assertTells(((((0, 1), 9),), 3), bounds, quotient([], {0: [0, 0, 1]}), 12)
        self.assertTells(None, bounds, power(-1), 6)
        self.assertTells(((((0, 1), 0),), 2), bounds, power(-1), 8)

    def test_by_exponents(self):
        source = random.Random(55)
        kinds = {}
        for _ in range(150):
            heads = [source.randint(1, 6) for _ in range(source.randint(0, 3))]
            tails = {Fraction(k * k + 1, k + 2) - 3: [1] * (order - 1) + [source.choice((2, 6, Fraction(3, 4)))]
                     for k, order in enumerate(heads)}
            r = quotient([source.randint(0, 1) for _ in range(source.randint(0, 7))], tails)
            for m in DEGREES:
                told = kept(bounds, r, m)
                self.assertSame(told, second.bounds(r, m))
                kinds[told is None] = kinds.get(told is None, 0) + 1
        self.assertGreater(min(kinds.values()), 100)

    def test_errors(self):
        for thing in wrong.EQUATIONS:
            self.assertBad(BadEquation, thing, bounds, thing, 4)
            self.assertBad(BadEquation, thing, bounds, thing, None)
        for thing in wrong.DEGREES:
            self.assertBad(BadDegree, thing, bounds, power(1), thing)


class EquationTest(SameCase):
    def test_told(self):
        # y * y' and the like: for zero W_k is the slope of the degree m + 1 of x ** k, which is 0.
        for j in (0, 1, 300):
            self.assertTells(((),) * 3, equation, ZERO, 2, j)
        self.assertTells(((),), equation, power(0), 4, 0)
        # r = 1 + 1 / x: the row of 1 is 1, 0, -2 r, -2 r' = 2 / x ** 2; S ** 3 makes it 2 x.
        r = quotient([1], {0: [1]})
        self.assertTells(((),), equation, r, 2, 0)
        self.assertTells((number(2),), equation, r, 2, 1)
        self.assertTells(((),), equation, r, 2, 2)

    def test_by_definition(self):
        for r, m in ROOM:
            told = second.columns(r, m)
            self.assertEqual(len(told), bounds(r, m)[1] + 1)
            for j in list(range(min(greatest(told) + 3, 301))) + [299, 300]:
                expected = tuple(number(column[j]) if j < len(column) else () for column in told)
                self.assertSame(equation(r, m, j), expected)

    def test_twice(self):
        for r, m in ROOM:
            for j in (0, 1, 5, 300):
                self.assertEqual(len(kept(equation, r, m, j)), bounds(r, m)[1] + 1)

    def test_sums_that_are_zero(self):
        # A form x ** 3 + .. of zero, and that of the square of an answer, put in.
        r = square_equation({0: 1, 1: -2}, 2)
        (exponents, room) = bounds(r, 4)
        self.assertEqual(exponents, (((0, 1), 1), ((1, 1), -2)))
        for j in range(40):
            self.assertEqual(equation(r, 4, j)[0], ())
        self.assertTells(True, is_form, r, 4, quotient([], {1: [1, 1]}))

    def test_exponents_are_used(self):
        for r, m in ROOM:
            told, room = bounds(r, m)
            self.assertEqual(told, tuple((c, exponents_at(r, c, m)[0]) for c, _ in orders(r)))
            self.assertEqual(room, exponents_far(r, m)[-1] - sum(e for _, e in told))


class ErrorsTest(SameCase):
    def test_no_equation(self):
        for thing in wrong.EQUATIONS:
            for m, j in ((4, 0), (None, None)):
                self.assertBad(BadEquation, thing, equation, thing, m, j)

    def test_no_degree(self):
        for thing in wrong.DEGREES:
            for j in (0, None, -1):
                self.assertBad(BadDegree, thing, equation, ZERO, thing, j)

    def test_no_room(self):
        for r, m in ((power(1), 4), (power(1), 8), (power(1), 2), (power(-1), 6), (power(-6), 2), (power(2), 2)):
            for j in (0, 300, 301, None, True):
                self.assertBad(BadDegree, m, equation, r, m, j)

    def test_no_place(self):
        for thing in makers.ODD_VALUES + (-1, 301, 302, (0,), [0], "0", 10 ** 30):
            self.assertBad(BadPlace, thing, equation, ZERO, 2, thing)
            self.assertBad(BadPlace, thing, equation, quotient([1], {0: [1]}), 2, thing)


if __name__ == "__main__":
    unittest.main()
