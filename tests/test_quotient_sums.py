"""2.2: sums, products and slopes of quotients."""

import random
import unittest

import makers
import oracle
from same import SameCase, is_exact, kept
from twiceslope.errors import BadPoint, BadQuotient
from twiceslope.quotients import is_equation, is_quotient, plus, product, row_at, row_far, slope
from test_quotient_kinds import NO_QUOTIENTS, QUOTIENTS

ZERO = ((), ())
ONE, HALF, LESS, TWO = ((1, 1, 1),), ((1, 1, 2),), ((1, -1, 1),), ((1, 2, 1),)
UNIT, X = ((ONE,), ()), (((), ONE), ())
ROOT = ((2, 1, 1),)


def over_power(pole, power, number=ONE):
    """number / (x - pole) ** power."""
    return ((), ((pole, ((),) * (power - 1) + (number,)),))


def linear(top, bottom):
    """The polynomial x - top / bottom."""
    first = ((1, -top, bottom),) if top else ()
    return ((first, ONE), ())


def negative(number):
    return tuple((d, -top, bottom) for d, top, bottom in number)


def minus(quotient):
    whole, tails = quotient
    return (
        tuple(negative(number) for number in whole),
        tuple((pole, tuple(negative(number) for number in row)) for pole, row in tails),
    )


class SharedCase(SameCase):
    def check(self, result, ones, worth, degree):
        """The result is a quotient, and is worth what it should be at more points than such a one has zeros."""
        self.assertTrue(oracle.is_quotient(result), result)
        self.assertTrue(is_quotient(result) and is_exact(result))
        barred = oracle.poles(result, *ones)
        for x in oracle.points(degree, barred):
            self.assertEqual(oracle.value(result, x), worth(x))

    def check_sum(self, one, other):
        result = kept(plus, one, other)
        self.check(
            result, (one, other), lambda x: oracle.add(oracle.value(one, x), oracle.value(other, x)),
            oracle.size(one) + oracle.size(other),
        )
        return result

    def check_product(self, one, other):
        result = kept(product, one, other)
        self.check(
            result, (one, other), lambda x: oracle.multiply(oracle.value(one, x), oracle.value(other, x)),
            oracle.size(one) + oracle.size(other),
        )
        return result

    def check_slope(self, one):
        result = kept(slope, one)
        self.check(result, (one,), lambda x: oracle.slope_value(one, x), 2 * oracle.size(one))
        return result


class SumsTest(SharedCase):
    def test_zero(self):
        for one in QUOTIENTS:
            self.assertTells(one, plus, one, ZERO)
            self.assertTells(one, plus, ZERO, one)

    def test_everything_falls_away(self):
        source = random.Random(30)
        for one in QUOTIENTS + (makers.quotient(source, 3, [2, 3, 1], 3),):
            self.assertTells(ZERO, plus, one, minus(one))

    def test_numbers_fall_away(self):
        one = ((ONE, HALF), (((0, 1), (ONE, HALF)),))
        other = ((ONE, ((1, -1, 2),)), (((0, 1), (ONE, ((1, -1, 2),))),))
        self.assertTells(((TWO,), (((0, 1), (TWO,)),)), plus, one, other)
        self.assertTells((((), HALF), (((0, 1), ((), HALF)),)), plus, one, ((LESS,), (((0, 1), (LESS,)),)))
        self.assertTells(((((1, 1, 1), (2, 1, 1)),), ()), plus, ((ONE,), ()), ((ROOT,), ()))

    def test_several_numbers_at_an_end_fall_away(self):
        one = ((ONE, ONE, (), ONE), (((0, 1), (ONE, (), (), HALF)),))
        other = (((), LESS, (), LESS), (((0, 1), ((), (), (), ((1, -1, 2),))),))
        self.assertTells(((ONE,), (((0, 1), (ONE,)),)), plus, one, other)
        self.assertTells(((ONE,), (((0, 1), (ONE,)),)), plus, other, one)

    def test_rows_and_poles_fall_away(self):
        one = ((ONE,), (((-1, 1), (ONE,)), ((0, 1), (HALF, ONE)), ((1, 2), (ONE,))))
        self.assertTells(
            ((ONE,), (((-1, 1), (ONE,)), ((1, 2), (ONE,)))), plus, one, ((), (((0, 1), (((1, -1, 2),), LESS)),)),
        )
        self.assertTells(((ONE,), ()), plus, one, minus(((), one[1])))
        self.assertTells(((), one[1]), plus, one, ((LESS,), ()))

    def test_order_of_poles(self):
        self.assertTells(
            ((), tuple((pole, (ONE,)) for pole in ((-1, 2), (-1, 3), (1, 3), (1, 2), (3, 4), (2, 1)))), plus,
            ((), tuple((pole, (ONE,)) for pole in ((-1, 3), (1, 2), (2, 1)))),
            ((), tuple((pole, (ONE,)) for pole in ((-1, 2), (1, 3), (3, 4)))),
        )
        self.assertTells(
            ((), (((1, 2), (ONE,)), ((1, 1), (ONE,)))), plus, over_power((1, 1), 1), over_power((1, 2), 1),
        )

    def test_lengths(self):
        self.assertTells(((TWO, ONE, ONE), ()), plus, ((ONE, ONE, ONE), ()), UNIT)
        self.assertTells(((TWO, ONE, ONE), ()), plus, UNIT, ((ONE, ONE, ONE), ()))

    def test_many(self):
        source = random.Random(31)
        for _ in range(60):
            places = makers.poles(source, 5)
            one, other = (makers.some_quotient(source, 4, 3, source.sample(places, 3)) for _ in range(2))
            total = self.check_sum(one, other)
            self.assertSame(plus(other, one), total)
            self.assertSame(plus(total, minus(other)), one)


class ProductsTest(SharedCase):
    def test_zero_and_one(self):
        for one in QUOTIENTS:
            self.assertTells(ZERO, product, one, ZERO)
            self.assertTells(ZERO, product, ZERO, one)
            self.assertTells(one, product, one, UNIT)
            self.assertTells(one, product, UNIT, one)

    def test_known(self):
        self.assertTells(over_power((1, 2), 5), product, over_power((1, 2), 2), over_power((1, 2), 3))
        self.assertTells((((),) * 7 + (ONE,), ()), product, (((),) * 3 + (ONE,), ()), (((),) * 4 + (ONE,), ()))
        self.assertTells(UNIT, product, X, over_power((0, 1), 1))
        self.assertTells(((ONE,), (((1, 1), (ONE,)),)), product, X, over_power((1, 1), 1))
        told = ((), (((-1, 1), (((1, -1, 2),),)), ((1, 1), (HALF,))))
        self.assertTells(told, product, over_power((-1, 1), 1), over_power((1, 1), 1))
        self.assertTells(over_power((0, 1), 2, TWO), product, over_power((0, 1), 1, ROOT), over_power((0, 1), 1, ROOT))

    def test_a_zero_meets_a_pole(self):
        for top, bottom in ((0, 1), (1, 2), (-20, 19), (7, 3)):
            zero = linear(top, bottom)
            for order in range(2, 7):
                self.assertTells(
                    over_power((top, bottom), order - 1), product, zero, over_power((top, bottom), order),
                )
            self.assertTells(UNIT, product, over_power((top, bottom), 1), zero)

    def test_many_zeros_meet_a_pole(self):
        zero = linear(1, 2)
        power = product(product(zero, zero), zero)
        self.assertTells(zero, product, power, over_power((1, 2), 2))
        self.assertTells(UNIT, product, power, over_power((1, 2), 3))
        self.assertTells(over_power((1, 2), 3), product, power, over_power((1, 2), 6))

    def test_zeros_that_are_not_of_the_whole(self):
        # 1 / x - 2 / (x + 1) is (1 - x) / (x (x + 1)), so it is 0 at 1.
        one = ((), (((-1, 1), (((1, -2, 1),),)), ((0, 1), (ONE,))))
        result = self.check_product(one, over_power((1, 1), 1))
        self.assertSame([pole for pole, _ in result[1]], [(-1, 1), (0, 1)])
        result = self.check_product(one, over_power((1, 1), 2))
        self.assertSame([len(row) for _, row in result[1]], [1, 1, 1])
        back = (((), LESS, LESS), ())
        self.assertTells(((LESS, ONE), ()), product, one, back)

    def test_poles_that_fall_away_on_both_sides(self):
        # (x - 1) / (x - 2) times (x - 2) / (x - 1).
        one, other = ((ONE,), (((2, 1), (ONE,)),)), ((ONE,), (((1, 1), (LESS,)),))
        self.assertTells(UNIT, product, one, other)
        self.assertTells(UNIT, product, other, one)

    def test_shared_poles(self):
        source = random.Random(32)
        for _ in range(40):
            places = makers.poles(source, 3)
            one = makers.some_quotient(source, 3, 4, places[:2])
            other = makers.some_quotient(source, 3, 4, places[1:])
            self.assertSame(self.check_product(one, other), product(other, one))

    def test_the_limits(self):
        source = random.Random(33)
        same_poles = [(-20, 19), (-1, 20), (19, 20), (20, 1)]
        one = makers.quotient(source, 8, [6] * 4, 1, 8, at=same_poles)
        other = makers.quotient(source, 8, [6] * 4, 1, 8, at=same_poles)
        result = self.check_product(one, other)
        self.assertEqual((len(result[0]), [len(row) for _, row in result[1]]), (17, [12] * 4))
        other = makers.quotient(source, 8, [6] * 4, 1, 8, at=[(-19, 20), (-1, 19), (1, 20), (20, 19)])
        result = self.check_product(one, other)
        self.assertEqual((len(result[0]), [len(row) for _, row in result[1]]), (17, [6] * 8))

    def test_four_triples_in_each_number(self):
        source = random.Random(34)
        one = makers.quotient(source, 8, [6, 2], 4, 8, at=[(-20, 19), (1, 2)])
        other = makers.quotient(source, 2, [3, 6], 4, 8, at=[(1, 2), (20, 1)])
        self.check_product(one, other)

    def test_a_pole_without_a_whole(self):
        source = random.Random(35)
        for orders in ([1], [6], [3, 2], [6, 6]):
            one, other = makers.quotient(source, -1, orders), makers.quotient(source, -1, orders)
            self.assertEqual(self.check_product(one, other)[0], ())
            self.check_product(one, makers.quotient(source, 8, []))

    def test_laws(self):
        source = random.Random(36)
        for _ in range(15):
            places = makers.poles(source, 3)
            one, other, third = (makers.some_quotient(source, 2, 2, source.sample(places, 2)) for _ in range(3))
            self.assertSame(product(one, plus(other, third)), plus(product(one, other), product(one, third)))
            self.assertSame(product(one, product(other, third)), product(product(one, other), third))

    def test_plain_ones_stay_plain(self):
        source = random.Random(37)
        for _ in range(10):
            one, other = makers.plain_quotient(source, 2, [2, 1]), makers.plain_quotient(source, 1, [3])
            for result in (plus(one, other), product(one, other), slope(one)):
                self.assertTells(True, is_equation, result)


class SlopesTest(SharedCase):
    def test_known(self):
        self.assertTells(ZERO, slope, ZERO)
        self.assertTells(ZERO, slope, ((ROOT,), ()))
        self.assertTells(UNIT, slope, X)
        self.assertTells(((ROOT, ONE, ((1, 3, 2),)), ()), slope, ((ONE, ROOT, HALF, HALF), ()))
        self.assertTells((((),) * 7 + (((1, 8, 1),),), ()), slope, (((),) * 8 + (ONE,), ()))
        for order in range(1, 7):
            self.assertTells(
                over_power((-3, 2), order + 1, ((2, -order, 1),)), slope, over_power((-3, 2), order, ROOT),
            )

    def test_zeros_within(self):
        self.assertTells(
            (((), (), ((1, 3, 1),)), (((0, 1), ((), LESS, (), ((1, -3, 2),))),)), slope,
            ((ROOT, (), (), ONE), (((0, 1), (ONE, (), HALF)),)),
        )

    def test_many(self):
        source = random.Random(38)
        for _ in range(12):
            self.check_slope(makers.some_quotient(source, 3, 3, makers.poles(source, 2)))

    def test_the_limits(self):
        source = random.Random(39)
        result = kept(slope, makers.quotient(source, 8, [6] * 4, 4, 8))
        self.assertTrue(oracle.is_quotient(result))
        self.assertEqual((len(result[0]), [len(row) for _, row in result[1]]), (8, [7] * 4))

    def test_rule_for_products(self):
        source = random.Random(40)
        for _ in range(15):
            places = makers.poles(source, 3)
            one, other = makers.some_quotient(source, 3, 3, places[:2]), makers.some_quotient(source, 3, 3, places[1:])
            self.assertSame(slope(product(one, other)), plus(product(slope(one), other), product(one, slope(other))))
            self.assertSame(slope(plus(one, other)), plus(slope(one), slope(other)))

    def test_no_slope_has_a_first_row_number(self):
        source = random.Random(41)
        for _ in range(10):
            for _, row in slope(makers.quotient(source, 2, [1, 2, 3]))[1]:
                self.assertEqual(row[0], ())


class ErrorsTest(SameCase):
    def test_first_wrong(self):
        for call in (plus, product):
            for thing in NO_QUOTIENTS:
                self.assertBad(BadQuotient, thing, call, thing, UNIT)
                self.assertBad(BadQuotient, thing, call, UNIT, thing)
                self.assertBad(BadQuotient, thing, call, ZERO, thing)
                self.assertBad(BadQuotient, thing, call, thing, ZERO)
                self.assertBad(BadQuotient, thing, call, thing, [thing])
                self.assertBad(BadQuotient, [thing], call, [thing], thing)
                self.assertBad(BadQuotient, thing, call, other=None, one=thing)

    def test_one_argument(self):
        for thing in NO_QUOTIENTS:
            self.assertBad(BadQuotient, thing, slope, thing)
            self.assertBad(BadQuotient, thing, row_far, thing, 0)
            self.assertBad(BadQuotient, thing, row_at, thing, (0, 1), 0)
            self.assertBad(BadQuotient, thing, row_at, thing, None, 0)
            self.assertBad(BadQuotient, thing, row_at, c=(2, 4), quotient=thing, many=3)

    def test_points(self):
        for c in makers.ODD_VALUES + (
            (), (0,), (0, 1, 1), (2, 4), (0, 2), (0, 0), (1, 0), (1, -1), (0, -1), (-3, -1), [0, 1], (True, 1),
            (False, 1), (1, True), ((0, 1),), ("0", 1), (0, None), 0, (6, 3), ((1, 1, 1),), ((0, 1), (1, 1)),
        ):
            for quotient in (ZERO, UNIT, over_power((0, 1), 2)):
                self.assertBad(BadPoint, c, row_at, quotient, c, 3)
                self.assertBad(BadPoint, c, row_at, many=0, c=c, quotient=quotient)


if __name__ == "__main__":
    unittest.main()
