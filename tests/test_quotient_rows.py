"""2.3: rows at fractions and far away."""

import random
import unittest
from fractions import Fraction

import makers
import oracle
from same import SameCase, is_exact, kept
from test_quotient_sums import HALF, LESS, ONE, ROOT, TWO, UNIT, X, ZERO, linear, over_power
from twiceslope.quotients import plus, product, row_at, row_far


class SharedCase(SameCase):
    def check(self, result, told, many):
        k, numbers = result
        self.assertTrue(is_exact(result))
        self.assertEqual(k, told[0])
        self.assertEqual(len(numbers), many if told[1] or many == 0 else 0)
        self.assertTrue(all(oracle.is_number(number) for number in numbers))
        self.assertEqual([oracle.surd(number) for number in numbers], told[1])
        if numbers:
            self.assertNotEqual(numbers[0], ())

    def check_at(self, quotient, c, many):
        self.check(kept(row_at, quotient, c, many), oracle.row_at(quotient, Fraction(c[0], c[1]), many), many)

    def check_far(self, quotient, many):
        self.check(kept(row_far, quotient, many), oracle.row_far(quotient, many), many)


class RowAtTest(SharedCase):
    def test_zero(self):
        for many in (0, 1, 20):
            self.assertTells((0, ()), row_at, ZERO, (0, 1), many)
            self.assertTells((0, ()), row_at, ZERO, (-7, 3), many)

    def test_none(self):
        self.assertTells((-2, ()), row_at, over_power((1, 2), 2), (1, 2), 0)
        self.assertTells((0, ()), row_at, over_power((1, 2), 2), (1, 3), 0)
        self.assertTells((1, ()), row_at, X, (0, 1), 0)
        self.assertTells((0, ()), row_at, X, (1, 1), 0)

    def test_at_poles(self):
        self.assertTells((-3, (ONE, (), ())), row_at, over_power((1, 2), 3), (1, 2), 3)
        one = ((ONE, HALF), (((0, 1), (ROOT, (), TWO)), ((1, 1), (ONE,))))
        # 1 / (x - 1) is -1 - x - x ** 2 - .. at 0.
        told = (-3, (TWO, (), ROOT, (), ((1, -1, 2),), LESS, LESS))
        self.assertTells(told, row_at, one, (0, 1), 7)
        # Near 1, with u = x - 1: 3/2 + u/2, ROOT / (1 + u), 2 / (1 + u) ** 3.
        self.assertTells((-1, (ONE, ((1, 7, 2), (2, 1, 1)), ((1, -11, 2), (2, -1, 1)))), row_at, one, (1, 1), 3)

    def test_elsewhere(self):
        self.assertTells((0, (LESS,) * 4), row_at, over_power((1, 1), 1), (0, 1), 4)
        self.assertTells((0, (ONE, ((1, 2, 1),), ((1, 3, 1),))), row_at, over_power((1, 1), 2), (0, 1), 3)
        self.assertTells((0, (((1, 2, 1),), ((1, -4, 1),), ((1, 8, 1),))), row_at, over_power((0, 1), 1), (1, 2), 3)
        self.assertTells((0, (((1, 1, 4),), ONE, ONE, ())), row_at, (((), (), ONE), ()), (1, 2), 4)
        self.assertTells((0, (ROOT, (), ())), row_at, ((ROOT,), ()), (-19, 20), 3)

    def test_at_zeros(self):
        self.assertTells((1, (ONE, (), ())), row_at, linear(7, 3), (7, 3), 3)
        # 1 / x - 2 / (x + 1) is 0 at 1, once.
        one = ((), (((-1, 1), (((1, -2, 1),),)), ((0, 1), (ONE,))))
        self.assertTells((1, (((1, -1, 2),), ((1, 3, 4),))), row_at, one, (1, 1), 2)

    def test_at_zeros_many_times(self):
        for top, bottom in ((0, 1), (1, 2), (-20, 19)):
            power, factor = UNIT, linear(top, bottom)
            for k in range(1, 9):
                power = product(power, factor)
                self.assertTells((k, (ONE, ())), row_at, power, (top, bottom), 2)
                self.check_at(product(power, over_power((3, 1), 2)), (top, bottom), 5)
                self.check_at(product(power, ((ROOT,), (((-3, 1), (ONE,)), ((3, 1), (HALF, ONE))))), (top, bottom), 3)

    def test_the_most_zeros(self):
        # (x - 1) ** 32 over four poles of the order 6 has a whole of the degree 8: no more zeros are possible.
        power = UNIT
        for _ in range(32):
            power = product(power, linear(1, 1))
        bottom = UNIT
        for pole in ((-1, 1), (0, 1), (2, 1), (3, 1)):
            bottom = product(bottom, over_power(pole, 6))
        quotient = product(power, bottom)
        self.assertEqual((len(quotient[0]), [len(row) for _, row in quotient[1]]), (9, [6] * 4))
        self.assertEqual(row_at(quotient, (1, 1), 1)[0], 32)
        self.check_at(quotient, (1, 1), 3)

    def test_many(self):
        source = random.Random(50)
        for _ in range(25):
            orders = [source.randint(1, 3) for _ in range(source.randint(0, 2))]
            quotient = makers.quotient(source, source.randint(0, 3), orders, 2)
            for c in [pole for pole, _ in quotient[1]] + [(0, 1), (1, 1), makers.poles(source, 1)[0]]:
                self.check_at(quotient, c, source.randint(0, 6))

    def test_twenty(self):
        source = random.Random(51)
        quotient = makers.quotient(source, 3, [2, 3], 2, at=[(-20, 19), (1, 2)])
        for c in ((-20, 19), (1, 2), (19, 20)):
            self.check_at(quotient, c, 20)

    def test_the_limits(self):
        source = random.Random(52)
        quotient = makers.quotient(source, 8, [6] * 4, 1, 8)
        for c in (quotient[1][0][0], (17, 19)):
            self.check_at(quotient, c, 20)

    def test_more_numbers_begin_alike(self):
        source = random.Random(53)
        quotient = makers.quotient(source, 4, [2, 1], 2)
        k, numbers = row_at(quotient, (2, 3), 20)
        for many in range(20):
            self.assertTells((k, numbers[:many]), row_at, quotient, (2, 3), many)


class RowFarTest(SharedCase):
    def test_zero(self):
        for many in (0, 1, 20):
            self.assertTells((0, ()), row_far, ZERO, many)

    def test_none(self):
        self.assertTells((-3, ()), row_far, over_power((1, 2), 3), 0)
        self.assertTells((1, ()), row_far, X, 0)
        self.assertTells((0, ()), row_far, UNIT, 0)

    def test_with_a_whole(self):
        self.assertTells((0, (ROOT, (), ())), row_far, ((ROOT,), ()), 3)
        self.assertTells((2, (HALF, (), ONE, (), ())), row_far, ((ONE, (), HALF), ()), 5)
        one = ((ONE, HALF), (((2, 1), (ROOT, ONE)),))
        told = (1, (HALF, ONE, ROOT, ((1, 1, 1), (2, 2, 1)), ((1, 4, 1), (2, 4, 1)), ((1, 12, 1), (2, 8, 1))))
        self.assertTells(told, row_far, one, 6)

    def test_without_a_whole(self):
        self.assertTells((-1, (ONE, (), ())), row_far, over_power((0, 1), 1), 3)
        self.assertTells((-2, (ONE, ((1, 2, 1),), ((1, 3, 1),), ((1, 4, 1),))), row_far, over_power((1, 1), 2), 4)
        self.assertTells((-1, (ONE, HALF, ((1, 1, 4),))), row_far, over_power((1, 2), 1), 3)
        self.assertTells((-6, (ONE, ((1, -3, 1),))), row_far, over_power((-1, 2), 6), 2)

    def test_first_numbers_take_one_another_away(self):
        # 1 / (x - 1) - 1 / x begins at -2; with -1 / x ** 2 more, at -3.
        one = ((), (((0, 1), (LESS,)), ((1, 1), (ONE,))))
        self.assertTells((-2, (ONE, ONE, ONE)), row_far, one, 3)
        two = ((), (((0, 1), (LESS, LESS)), ((1, 1), (ONE,))))
        self.assertTells((-3, (ONE, ONE, ONE)), row_far, two, 3)
        many = ((), (((0, 1), (LESS,) * 6), ((1, 1), (ONE,))))
        self.assertTells((-7, (ONE, ONE)), row_far, many, 2)

    def test_the_lowest_degrees(self):
        quotient = UNIT
        for pole in ((-1, 2), (0, 1), (1, 2), (7, 3)):
            quotient = product(quotient, over_power(pole, 6))
        self.assertEqual(quotient[0], ())
        self.assertEqual(row_far(quotient, 1), (-24, (ONE,)))
        self.check_far(quotient, 4)

    def test_powers_of_products_add_up(self):
        source = random.Random(54)
        for _ in range(10):
            one, other = makers.quotient(source, source.randint(-1, 2), [2]), makers.quotient(source, -1, [1, 2])
            (k, first), (n, second) = row_far(one, 1), row_far(other, 1)
            self.assertEqual(row_far(product(one, other), 0)[0], k + n)
            c = (19, 17)
            self.assertEqual(row_at(product(one, other), c, 0)[0], row_at(one, c, 0)[0] + row_at(other, c, 0)[0])

    def test_many(self):
        source = random.Random(55)
        for _ in range(30):
            orders = [source.randint(1, 3) for _ in range(source.randint(1, 3))]
            quotient = makers.quotient(source, source.randint(-1, 3), orders, 2)
            self.check_far(quotient, source.randint(0, 6))
            self.check_far(plus(quotient, over_power((0, 1), 1)), 4)
            self.check_far((quotient[0], ()), 4)

    def test_twenty(self):
        source = random.Random(56)
        self.check_far(makers.quotient(source, 8, [6, 2], 1), 20)
        self.check_far(makers.quotient(source, -1, [6, 1, 2], 2), 20)

    def test_the_limits(self):
        source = random.Random(57)
        self.check_far(makers.quotient(source, 8, [6] * 4, 1, 8), 20)
        self.check_far(makers.quotient(source, -1, [6] * 4, 1, 8), 20)

    def test_more_numbers_begin_alike(self):
        source = random.Random(58)
        quotient = makers.quotient(source, -1, [2, 3], 2)
        k, numbers = row_far(quotient, 20)
        for many in range(20):
            self.assertTells((k, numbers[:many]), row_far, quotient, many)


if __name__ == "__main__":
    unittest.main()
