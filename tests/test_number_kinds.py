"""1.1: which values are numbers and fractions."""

import random
import unittest

import makers
import oracle
from same import SameCase
from twiceslope.numbers import integer_of, is_fraction, is_number

RIGHT = (
    (), ((1, 1, 1),), ((1, -3, 2),), ((1, 7, 1),), ((-1, 1, 1),), ((2, 1, 1),), ((-2, -5, 9),), ((30, 4, 15),),
    ((-6, 1, 2), (-1, 3, 1), (1, -3, 1), (6, 1, 7)), ((-3, 1, 1), (-2, 1, 1)), ((-1, 2, 1), (1, 2, 1)),
    ((999999 // 9, 1, 1),), ((999983, 1, 1),), ((-999979, 1, 1), (999983, -1, 1)), ((999994, 5, 1), (999997, 5, 1)),
    ((510510, 1, 1),), ((1, 10 ** 30 - 1, 10 ** 30 - 2),), ((7, 1 - 10 ** 30, 10 ** 30 - 3),),
)

WRONG = (
    # A d with a square in it, and d = 0.
    ((4, 1, 1),), ((-4, 1, 1),), ((8, 1, 1),), ((9, 1, 1),), ((12, 1, 1),), ((18, 1, 1),), ((-25, 1, 1),),
    ((49, 1, 1),), ((1000000, 1, 1),), ((999999, 1, 1),), ((994009, 1, 1),), ((-994009, 1, 1),),
    ((2 * 701 ** 2, 1, 1),),
    ((0, 1, 1),), ((0, 1, 1), (1, 1, 1)), ((1, 1, 1), (4, 1, 1)),
    ((10 ** 39, 1, 1),), ((-(10 ** 39), 1, 1),), (((10 ** 19 + 51) ** 2, 1, 1),), ((4 * (10 ** 38 + 1), 1, 1),),
    # top = 0.
    ((1, 0, 1),), ((2, 0, 1),), ((1, 1, 1), (2, 0, 1)),
    # A bottom below 1.
    ((1, 1, 0),), ((1, 1, -1),), ((2, -1, -3),), ((2, 0, 0),),
    # A common divisor.
    ((1, 2, 4),), ((1, -2, 2),), ((3, 6, 9),), ((1, 10 ** 30, 10 ** 29),),
    # A d twice.
    ((1, 1, 1), (1, 1, 1)), ((1, 1, 1), (1, 2, 1)), ((2, 1, 2), (2, 1, 1)), ((-3, 1, 1), (1, 1, 1), (1, 2, 1)),
    # Triples that do not ascend.
    ((2, 1, 1), (1, 1, 1)), ((1, 1, 1), (-1, 1, 1)), ((-2, 1, 1), (-3, 1, 1)), ((1, 1, 1), (3, 1, 1), (2, 1, 1)),
    # Bools.
    ((True, 1, 1),), ((1, True, 1),), ((1, 1, True),), ((2, False, 1),), ((1, 1, 1), (2, 1, True)), True, False,
    # Lists.
    [], [(1, 1, 1)], ([1, 1, 1],), ((1, 1, 1), [2, 1, 1]), (([1], 1, 1),), ((1, [1], 1),), ((1, 1, [1]),),
    # Too few or too many parts.
    ((),), ((1,),), ((1, 1),), ((1, 1, 1, 1),), ((1, 1, 1), ()), (1, 1, 1), ((2, 1, 1, 1), (3, 1, 1)),
    # Other values, nested.
    None, 0, 1, "", "1", {}, {"d": 1}, (None,), ("111",), (("1", 1, 1),), ((1, None, 1),), ((1, 1, "1"),),
    (((1, 1, 1),),), ((1, (1,), 1),), ({},), ((1, {}, 1),), ({0: 1, 1: 1, 2: 1},),
)


class KindsTest(SameCase):
    def test_right(self):
        for thing in RIGHT:
            self.assertTells(True, is_number, thing)
            self.assertTrue(oracle.is_number(thing))

    def test_wrong(self):
        for thing in WRONG:
            self.assertTells(False, is_number, thing)
            self.assertTells(False, is_fraction, thing)
            self.assertFalse(oracle.is_number(thing))

    def test_fractions(self):
        for thing in RIGHT:
            self.assertTells(all(d == 1 for d, _, _ in thing), is_fraction, thing)
        self.assertTells(False, is_fraction, ((1, 1, 1), (2, 1, 1)))
        self.assertTells(False, is_fraction, ((-1, 1, 1), (1, 1, 1)))

    def test_each_d(self):
        for d in range(-400, 401):
            self.assertEqual(is_number(((d, 1, 1),)), oracle.is_number(((d, 1, 1),)), d)

    def test_d_of_nearly_a_million(self):
        for d in list(range(10 ** 6 - 120, 10 ** 6 + 1)) + [p * p * k for p in (991, 997, 353) for k in (1, 2, 7)]:
            if d <= 10 ** 6:
                self.assertEqual(is_number(((d, 1, 1),)), oracle.is_number(((d, 1, 1),)), d)
                self.assertEqual(is_number(((-d, 1, 1),)), oracle.is_number(((-d, 1, 1),)), d)

    def test_somewhat_beyond_the_limits(self):
        self.assertTells(True, is_number, ((999979 * 999983, 1, 1),))
        self.assertTells(False, is_number, ((999983 * 999983, 1, 1),))
        self.assertTells(False, is_number, ((2 * 999983 * 999983, 1, 1),))
        self.assertTells(True, is_number, tuple((d, 1, 1) for d in (-7, -6, -5, -3, -2, -1, 1, 2, 3, 5, 6, 7)))

    def test_one_part_spoiled(self):
        source = random.Random(11)
        told = {True: 0, False: 0}
        for _ in range(4000):
            thing = makers.spoiled(source, makers.number(source, source.randint(1, 4), source.choice((1, 2, 30))))
            whether = is_number(thing)
            self.assertEqual(whether, oracle.is_number(thing), thing)
            self.assertIs(type(whether), bool)
            told[whether] += 1
        self.assertGreater(min(told.values()), 300)


class IntegersTest(SameCase):
    def test_integers(self):
        for n in (1, -1, 2, 17, -10 ** 29, 10 ** 30 - 1):
            self.assertTells(n, integer_of, ((1, n, 1),))
        self.assertTells(0, integer_of, ())

    def test_others(self):
        for number in (
            ((1, 1, 2),), ((1, -7, 3),), ((2, 1, 1),), ((2, 3, 1),), ((-1, 1, 1),), ((-1, 1, 1), (1, 1, 1)),
            ((1, 2, 1), (2, 1, 1)), ((1, 10 ** 30 - 1, 10),),
        ):
            self.assertTells(None, integer_of, number)


if __name__ == "__main__":
    unittest.main()
