"""1.1: sums, differences, products, quotients and roots."""

import random
import unittest
from fractions import Fraction
from math import gcd

import makers
import oracle
from same import SameCase, is_exact, kept
from twiceslope.numbers import added, fraction, is_number, over, root_of, taken, times

ONE = ((1, 1, 1),)
I = ((-1, 1, 1),)
BIG = 10 ** 30


class SharedCase(SameCase):
    def check(self, result, told):
        """The result is a number, and the one that the oracle tells."""
        self.assertTrue(oracle.is_number(result), result)
        self.assertTrue(is_number(result) and is_exact(result))
        self.assertEqual(oracle.surd(result), told)

    def check_all(self, one, other):
        """Sum, difference and product of a pair are right, and so is the quotient, by multiplying back."""
        a, b = oracle.surd(one), oracle.surd(other)
        self.check(kept(added, one, other), oracle.add(a, b))
        self.check(kept(taken, one, other), oracle.add(a, oracle.multiply(b, oracle.rational(-1))))
        self.check(kept(times, one, other), oracle.multiply(a, b))
        if other:
            self.check_over(one, other)

    def check_over(self, one, other):
        result = kept(over, one, other)
        self.assertTrue(oracle.is_number(result), result)
        self.assertEqual(oracle.multiply(oracle.surd(result), oracle.surd(other)), oracle.surd(one))
        self.assertSame(times(result, other), one)


class FractionTest(SharedCase):
    def test_lowest_terms(self):
        for top in range(-12, 13):
            for bottom in range(-12, 13):
                if bottom != 0:
                    worth = Fraction(top, bottom)
                    told = ((1, worth.numerator, worth.denominator),) if top else ()
                    self.assertTells(told, fraction, top, bottom)

    def test_large(self):
        self.assertTells(((1, -(BIG - 1), BIG - 3),), fraction, BIG - 1, 3 - BIG)
        self.assertTells(((1, 3, 2),), fraction, 3 * (BIG - 1), 2 * (BIG - 1))
        self.assertTells((), fraction, 0, -BIG)


class SumsTest(SharedCase):
    def test_nothing(self):
        for number in ((), ONE, ((-6, 1, 2), (1, -3, 1))):
            self.assertTells(number, added, number, ())
            self.assertTells(number, added, (), number)
            self.assertTells(number, taken, number, ())
            self.assertTells((), taken, number, number)
            self.assertTells((), times, number, ())
            self.assertTells((), times, (), number)
            self.assertTells(number, times, ONE, number)
            self.assertTells(number, over, number, ONE)
        self.assertTells((), over, (), ((2, 1, 1), (3, 1, 1)))

    def test_parts_fall_away(self):
        one = ((-2, 1, 3), (1, 1, 2), (5, 2, 1))
        self.assertTells(((-2, 1, 3), (5, 4, 1)), added, one, ((1, -1, 2), (5, 2, 1)))
        self.assertTells(((1, 1, 2),), taken, one, ((-2, 1, 3), (5, 2, 1)))
        self.assertTells((), added, one, ((-2, -1, 3), (1, -1, 2), (5, -2, 1)))
        self.assertTells(((1, 5, 6), (2, 1, 1)), added, ((1, 1, 2),), ((1, 1, 3), (2, 1, 1)))

    def test_order_of_triples(self):
        told = ((-3, 1, 1), (-1, 1, 1), (1, 1, 1), (2, 1, 1))
        self.assertTells(told, added, ((-1, 1, 1), (2, 1, 1)), ((-3, 1, 1), (1, 1, 1)))
        self.assertTells(((2, 1, 1), (10, 1, 1)), added, ((10, 1, 1),), ((2, 1, 1),))

    def test_small_pairs(self):
        source = random.Random(1)
        for _ in range(700):
            one = makers.number(source, source.randint(0, 4), 2)
            other = makers.number(source, source.randint(0, 4), 2)
            self.check_all(one, other)

    def test_thirty_digits(self):
        source = random.Random(2)
        for _ in range(40):
            self.check_all(makers.number(source, 4, 30), makers.number(source, 4, 30))

    def test_largest_tops_and_bottoms(self):
        self.assertEqual((gcd(BIG - 1, BIG - 2), gcd(BIG - 1, BIG - 9)), (1, 1))
        one = tuple((d, 1 - BIG, BIG - 2) for d in (-6, -1, 2, 3))
        other = tuple((d, BIG - 1, BIG - 9) for d in (-2, 1, 3, 6))
        self.check_all(one, other)
        self.check_all(other, one)


class ProductsTest(SharedCase):
    def test_two_roots_below_zero(self):
        self.assertTells(((1, -1, 1),), times, I, I)
        self.assertTells(((1, -2, 1),), times, ((-2, 1, 1),), ((-2, 1, 1),))
        self.assertTells(((6, -1, 1),), times, ((-2, 1, 1),), ((-3, 1, 1),))
        self.assertTells(((15, -2, 1),), times, ((-6, 1, 1),), ((-10, 1, 1),))
        self.assertTells(((6, 1, 1),), times, ((-2, -1, 1),), ((-3, 1, 1),))
        self.assertTells(((2, -1, 1),), times, I, ((-2, 1, 1),))

    def test_one_root_below_zero(self):
        self.assertTells(((-6, 1, 1),), times, ((-2, 1, 1),), ((3, 1, 1),))
        self.assertTells(((-1, 2, 1),), times, ((-2, 1, 1),), ((2, 1, 1),))
        self.assertTells(((-2, 1, 1),), times, I, ((2, 1, 1),))
        self.assertTells(((-15, 2, 1),), times, ((6, 1, 1),), ((-10, 1, 1),))

    def test_roots_above_zero(self):
        self.assertTells(((1, 2, 1),), times, ((2, 1, 1),), ((2, 1, 1),))
        self.assertTells(((3, 2, 1),), times, ((2, 1, 1),), ((6, 1, 1),))
        self.assertTells(((1, -1, 1),), times, ((1, 1, 1), (2, 1, 1)), ((1, 1, 1), (2, -1, 1)))

    def test_shared_divisors(self):
        self.assertTells(((35, 30, 1),), times, ((210, 1, 1),), ((6, 5, 1),))
        self.assertTells(((221, 30, 1),), times, ((510, 1, 1),), ((390, 1, 1),))
        for d in (-510510, -2310, -30, 30, 2310, 510510):
            for e in (-510510, -39, -15, 21, 22, 510510):
                self.check_all(((d, 2, 3),), ((e, -5, 7),))

    def test_nearly_a_million(self):
        for d, e in ((999983, 999983), (-999983, 999983), (-999983, -999983), (999994, 2), (999997, 757)):
            self.check_all(((1, 1, 2), (d, 1, 3)) if d > 1 else ((d, 1, 3), (1, 1, 2)), ((e, -2, 5),))
        self.assertTells(((1, -999983, 1),), times, ((-999983, 1, 1),), ((-999983, 1, 1),))
        self.assertTells(((999982, 1, 1),), times, ((2, 1, 1),), ((499991, 1, 1),))

    def test_laws(self):
        source = random.Random(4)
        for _ in range(60):
            one, other, third = (makers.number(source, source.randint(0, 4), 2) for _ in range(3))
            self.assertSame(times(one, other), times(other, one))
            self.assertSame(times(one, added(other, third)), added(times(one, other), times(one, third)))
            self.assertSame(times(one, times(other, third)), times(times(one, other), third))


class QuotientsTest(SharedCase):
    def test_known(self):
        self.assertTells(((1, -1, 1), (2, 1, 1)), over, ONE, ((1, 1, 1), (2, 1, 1)))
        self.assertTells(((-1, -1, 1),), over, ONE, I)
        self.assertTells(((-2, -1, 2),), over, ONE, ((-2, 1, 1),))
        self.assertTells(((1, 2, 3),), over, ((1, 1, 3),), ((1, 1, 2),))
        self.assertTells(((1, -2, 3),), over, ((1, 1, 3),), ((1, -1, 2),))
        self.assertTells(((-1, -1, 2), (1, 1, 2)), over, ONE, ((-1, 1, 1), (1, 1, 1)))

    def test_one_to_four_triples(self):
        source = random.Random(6)
        for many in (1, 2, 3, 4):
            for _ in range(60):
                self.check_over(makers.number(source, source.randint(0, 4), 3), makers.number(source, many, 3))

    def test_roots_that_come_of_one_another(self):
        source = random.Random(7)
        for roots in (
            (1, 2, 3, 6), (2, 3, 6), (-1, 2, -2, 1), (-6, -3, -2, 1), (6, 10, 15, 1), (6, 10, 15, -1), (2, 6, 3, -1),
            (-1, -2, -3, 6), (-6, -1, 1, 6), (30, 42, 35, 1), (2, 3, 5, 30),
        ):
            for many in range(1, len(roots) + 1):
                for _ in range(6):
                    other = makers.number(source, many, 2, roots)
                    self.check_over(makers.number(source, 2, 2, roots), other)
                    self.check_over(ONE, other)

    def test_small_parts_that_nearly_meet(self):
        for other in (
            ((2, 1, 1), (3, 1, 1), (6, 1, 1)), ((1, 1, 1), (2, 1, 1), (3, 1, 1), (6, 1, 1)),
            ((1, 1, 1), (2, -1, 1), (3, -1, 1), (6, 1, 1)), ((1, 5, 1), (6, 2, 1)), ((1, 7, 5), (2, -1, 1)),
            ((-1, 1, 1), (1, 1, 1)), ((-6, 1, 1), (-3, 1, 1), (-2, 1, 1), (-1, 1, 1)), ((1, 577, 408), (2, -1, 1)),
        ):
            self.check_over(ONE, other)
            self.check_over(other, other)

    def test_four_roots_of_unlike_primes(self):
        other = ((2, 1, 1), (3, 1, 1), (5, 1, 1), (7, 1, 1))
        self.check_over(ONE, other)
        self.check_over(((-1, 1, 1), (11, 1, 2)), ((-1, 2, 1), (2, 1, 3), (3, 1, 1), (5, 7, 1)))

    def test_nearly_a_million(self):
        for d in (999983, -999983, 999997, -999994, 999930):
            other = ((1, 2, 3), (d, -5, 7)) if d > 0 else ((d, -5, 7), (1, 2, 3))
            self.check_over(ONE, other)
            self.check_over(((d, 1, 2),), other)
        self.check_over(ONE, ((-1, 1, 1), (2, 1, 2), (499979, 3, 1), (999958, 1, 1)))

    def test_thirty_digits(self):
        source = random.Random(8)
        for roots in ((1, 2, 3, 6), (-1, 1, 2, 3), (2, 3, 5, 7), (6, 10, 15, 1)):
            other = makers.number(source, 4, 30, roots)
            self.check_over(makers.number(source, 4, 30, roots), other)

    def test_integers_have_few_digits(self):
        source = random.Random(9)
        result = over(makers.number(source, 4, 30), makers.number(source, 4, 30, (-1, 2, 3, 5)))
        self.assertLess(max(abs(part) for triple in result for part in triple), 10 ** 4000)


class RootsTest(SharedCase):
    def check_root(self, top, bottom):
        result = root_of(top, bottom)
        if top == 0:
            self.assertSame(result, ())
            return
        self.assertEqual(len(result), 1)
        (d, above, below), worth = result[0], Fraction(top, bottom)
        self.assertGreater(above, 0)
        self.assertGreater(below, 0)
        self.assertEqual(gcd(above, below), 1)
        self.assertEqual(Fraction(d * above * above, below * below), worth)
        if abs(d) <= 10 ** 6:
            self.assertTrue(is_number(result))
        self.assertEqual(len(oracle.primes_of(abs(d))), len(set(oracle.primes_of(abs(d)))))
        self.assertTrue(is_exact(result))

    def test_squares(self):
        for k in range(1, 101):
            self.assertTells(((1, k, 1),), root_of, k * k, 1)
            self.assertTells(((1, 1, k),), root_of, 1, k * k)
            self.assertTells(((-1, k, 1),), root_of, -k * k, 1)
            self.assertTells(((-1, k, 1),), root_of, k * k, -1)

    def test_known(self):
        self.assertTells(((2, 1, 2),), root_of, 1, 2)
        self.assertTells(((-2, 1, 2),), root_of, 1, -2)
        self.assertTells(((2, 1, 2),), root_of, -1, -2)
        self.assertTells(((6, 1, 3),), root_of, 2, 3)
        self.assertTells(((1, 2, 3),), root_of, 8, 18)
        self.assertTells(((2, 100, 1),), root_of, 20000, 1)
        self.assertTells(((1, 100, 1),), root_of, 10 ** 4, 1)
        self.assertTells(((-9973, 1, 1),), root_of, -9973, 1)
        self.assertTells(((9973, 1, 9973),), root_of, 1, 9973)
        self.assertTells(((1, 1, 1),), root_of, 9973, 9973)

    def test_zero(self):
        for bottom in (1, -1, 7, -9, 10 ** 4, -(10 ** 4)):
            self.assertTells((), root_of, 0, bottom)

    def test_small(self):
        for top in range(-60, 61):
            for bottom in list(range(-30, 0)) + list(range(1, 31)):
                self.check_root(top, bottom)

    def test_up_to_ten_thousand(self):
        for k in list(range(1, 10 ** 4, 37)) + [9409, 9998, 9999, 10 ** 4]:
            for top, bottom in ((k, 1), (-k, 1), (1, k), (k, 10), (-100, k), (k, 9604), (k, -k)):
                self.check_root(top, bottom)

    def test_the_square_of_a_root(self):
        for top, bottom in ((-3, 4), (8, 9), (9999, 100), (-10 ** 4, 49), (98, -75), (5000, 81)):
            root = root_of(top, bottom)
            self.assertSame(times(root, root), fraction(top, bottom))


if __name__ == "__main__":
    unittest.main()
