"""3.1 and 3.2: orders and exponents."""

import random
import unittest
from fractions import Fraction
from math import isqrt

import makers
import oracle
import second
import wrong
from equations import ZERO, bessel, power, quotient
from same import SameCase
from twiceslope.errors import BadDegree, BadEquation, BadPoint
from twiceslope.points import exponents_at, exponents_far, far_order, orders

DEGREES = (2, 4, 6, 8, 10, 12)
# b with the root of 1 + 4 b: a fraction, 0, a root of another integer, a root of an integer below 0.
BESIDE = {
    Fraction(2): 3, Fraction(-3, 16): Fraction(1, 2), Fraction(-2, 9): Fraction(1, 3), Fraction(-5, 36): Fraction(2, 3),
    Fraction(5, 16): Fraction(3, 2), Fraction(-6, 25): Fraction(1, 5), Fraction(-1, 4): 0, Fraction(1, 4): None,
    Fraction(7, 4): None, Fraction(1): None, Fraction(-1, 2): None, Fraction(-5, 4): None, Fraction(-7): None,
    Fraction(35, 4): 6, Fraction(-15, 64): Fraction(1, 4), Fraction(-1000, 1): None, Fraction(999, 1000): None,
}


def beside(s, m):
    """The exponents by their definition, s being a Fraction or None."""
    half = m // 2
    worths = [half + j * Fraction(s or 0) for j in range(-half, half + 1)]
    return tuple(sorted({int(worth) for worth in worths if worth.denominator == 1}))


class OrdersTest(SameCase):
    def test_zero(self):
        self.assertTells((), orders, ZERO)
        self.assertTells(3, far_order, ZERO)

    def test_poles(self):
        told = quotient([1, 2], {Fraction(1, 2): [0, 0, 1], Fraction(-1, 3): [5], 0: [0, 0, 0, 0, 0, 1], 7: [1, 1]})
        self.assertTells((((-1, 3), 1), ((0, 1), 6), ((1, 2), 3), ((7, 1), 2)), orders, told)
        self.assertTells(-1, far_order, told)

    def test_far(self):
        for n in range(-6, 7):
            self.assertTells(-n, far_order, power(n))
        self.assertTells(2, far_order, quotient([], {0: [1], 1: [-1]}))
        self.assertTells(3, far_order, quotient([], {0: [1], 1: [-2], 2: [1]}))
        self.assertTells(1, far_order, quotient([], {0: [1], 1: [-2]}))
        self.assertTells(6, far_order, quotient([], {0: [0, 0, 0, 0, 0, 1]}))
        self.assertTells(0, far_order, quotient([1], {0: [0, 0, 0, 0, 0, 1]}))


class ExponentsTest(SameCase):
    def both(self, worth, b, m):
        """The exponents where the equation is like b over a square: at a pole, and far away."""
        self.assertTells(worth, exponents_at, quotient([1], {Fraction(2, 3): [5, b]}), (2, 3), m)
        self.assertTells(worth, exponents_far, quotient([], {Fraction(1, 3): [0, b]}), m)
        # Far away 3 / (x - 1) - 3 / (x + 1) is like 6 over a square.
        self.assertTells(worth, exponents_far, quotient([], {1: [3, b - 6], -1: [-3, 0, 5]}), m)

    def test_order_one(self):
        for m in DEGREES:
            self.assertTells(tuple(range(m + 1)), exponents_at, quotient([0, 1], {3: [-5]}), (3, 1), m)

    def test_order_two(self):
        for b, s in BESIDE.items():
            for m in DEGREES:
                self.both(beside(s, m), b, m)

    def test_squares(self):
        for top in range(0, 40):
            for bottom in range(1, 9):
                s = Fraction(top, bottom)
                for m in (2, 6, 12):
                    if m * s / 2 + m // 2 <= 40:
                        self.both(beside(s, m), (s * s - 1) / 4, m)

    def test_no_squares(self):
        for top in range(-30, 31):
            # The root of top / 7 is that of 7 top, divided by 7.
            is_square = top >= 0 and isqrt(7 * top) ** 2 == 7 * top
            if top != 7:
                s = Fraction(isqrt(7 * top), 7) if is_square else None
                self.both(beside(s, 4), (Fraction(top, 7) - 1) / 4, 4)

    def test_greatest(self):
        told = quotient([], {0: [0, Fraction(17 * 17 - 9, 36)]})
        self.assertTells((-28, -11, 6, 23, 40), exponents_far, told, 12)
        self.assertTells((-28, -11, 6, 23, 40), exponents_at, told, (0, 1), 12)
        told = quotient([], {0: [0, Fraction(39 * 39 - 1, 4)]})
        self.assertTells((-38, 1, 40), exponents_at, told, (0, 1), 2)

    def test_higher_orders(self):
        for order in range(3, 7):
            told = quotient([], {-1: [0] * (order - 1) + [Fraction(-2, 3)]})
            for m in DEGREES:
                worth = Fraction(m * order, 4)
                expected = (int(worth),) if worth.denominator == 1 else ()
                self.assertTells(expected, exponents_at, told, (-1, 1), m)
                self.assertTells(tuple(range(m + 1)), exponents_far, told, m)

    def test_far_below_two(self):
        for n in range(1, -7, -1):
            told = quotient([], {5: [3]}) if n == 1 else quotient([1] * -n + [Fraction(1, 7)], {5: [3, 3]})
            for m in DEGREES:
                worth = Fraction(m * n, 4)
                self.assertTells((int(worth),) if worth.denominator == 1 else (), exponents_far, told, m)

    def test_far_of_zero(self):
        for m in DEGREES:
            self.assertTells(tuple(range(m + 1)), exponents_far, ZERO, m)


class ErrorsTest(SameCase):
    def test_no_equation(self):
        for thing in wrong.EQUATIONS:
            for call in (orders, far_order):
                self.assertBad(BadEquation, thing, call, thing)
                self.assertBad(BadEquation, thing, call, r=thing)
            for c, m in (((0, 1), 4), (None, 3), ([], True)):
                self.assertBad(BadEquation, thing, exponents_at, thing, c, m)
                self.assertBad(BadEquation, thing, exponents_far, thing, m)

    def test_no_pole(self):
        told = bessel(Fraction(1, 3))
        for thing in wrong.POINTS + ((1, 1), (-1, 2), (0, 10 ** 39)):
            for m in (4, 5, None, True, []):
                self.assertBad(BadPoint, thing, exponents_at, told, thing, m)
        self.assertBad(BadPoint, (0, 1), exponents_at, power(3), (0, 1), 4)
        self.assertBad(BadPoint, (0, 1), exponents_at, ZERO, (0, 1), 4)

    def test_no_degree(self):
        told = bessel(Fraction(1, 3))
        for thing in wrong.DEGREES:
            self.assertBad(BadDegree, thing, exponents_at, told, (0, 1), thing)
            self.assertBad(BadDegree, thing, exponents_far, told, thing)
            self.assertBad(BadDegree, thing, exponents_far, r=ZERO, m=thing)

    def test_spoiled(self):
        source = random.Random(31)
        told = quotient([1, 2], {0: [1, 2, 3], 2: [5]})
        found = 0
        for _ in range(300):
            thing = makers.spoiled(source, told)
            if not (oracle.is_quotient(thing) and second.is_plain(thing)):
                self.assertBad(BadEquation, thing, orders, thing)
                self.assertBad(BadEquation, thing, far_order, thing)
                found += 1
        self.assertGreater(found, 200)


if __name__ == "__main__":
    unittest.main()
