"""2.1 and 2.2: which values are polynomials, quotients and plain quotients."""

import random
import unittest

import makers
import oracle
from same import SameCase
from test_number_kinds import RIGHT as NUMBERS
from test_number_kinds import WRONG as NO_NUMBERS
from twiceslope.quotients import is_equation, is_polynomial, is_quotient

ONE, I, HALF = ((1, 1, 1),), ((-1, 1, 1),), ((1, 1, 2),)

POLYNOMIALS = (
    (), (ONE,), ((), ONE), ((), (), I), (HALF, (), (), ONE), (ONE, I, HALF, ((2, 1, 1), (3, 1, 1))), ((),) * 8 + (ONE,),
)
NO_POLYNOMIALS = (
    ((),), (ONE, ()), ((), ()), (ONE, (), ()), ONE, (1,), (ONE, 1), (True,), (None,), [], [ONE], ([],), (ONE, []),
    ([(1, 1, 1)],), (([1, 1, 1],),), (ONE, [ONE]), ("1",), "", {}, None, 0, True, ({},), ((ONE,),), (((1, 1, 0),),),
    (((4, 1, 1),), ONE), (ONE, ((1, 2, 2),)), (ONE, ((1, True, 1),)), (ONE, False),
)


def at(*poles):
    """The quotient that is the sum of all 1 / (x - pole)."""
    return ((), tuple((pole, (ONE,)) for pole in poles))


QUOTIENTS = (
    ((), ()), ((ONE,), ()), (((), I), ()), at((0, 1)), at((-1, 2)), at((-20, 19), (-1, 1), (0, 1), (20, 19)),
    ((), (((1, 2), ((), (), HALF)),)), ((ONE,), (((1, 3), (I,)), ((1, 2), ((), ONE)))),
    (((),) * 8 + (ONE,), tuple(((k, 1), ((),) * 5 + (ONE,)) for k in range(4))),
    # Poles that ascend as fractions, but not as Python sorts pairs.
    at((1, 2), (1, 1)), at((1, 3), (1, 2)), at((3, 4), (2, 1)), at((-1, 2), (-1, 3)),
    at((-1, 3), (-2, 7)), at((5, 2), (3, 1)), at((1, 20), (1, 19), (1, 2), (1, 1)), at((-3, 2), (-4, 3), (-1, 1)),
)
NO_QUOTIENTS = (
    # A zero at an end, an empty row.
    (((),), ()), ((ONE, ()), ()), ((), (((0, 1), ()),)), ((), (((0, 1), ((),)),)), ((), (((0, 1), (ONE, ())),)),
    ((ONE,), (((0, 1), (ONE,)), ((1, 1), ()))),
    # Poles that do not ascend as fractions, also where Python sorts them so.
    at((1, 1), (0, 1)), at((1, 1), (1, 2)), at((1, 2), (1, 3)), at((2, 1), (3, 4)), at((2, 1), (5, 2), (3, 2)),
    at((-1, 3), (-1, 2)), at((0, 1), (-1, 1)), at((-1, 1), (0, 1), (1, 1), (1, 2)), at((3, 1), (5, 2)),
    # A pole twice.
    at((0, 1), (0, 1)), at((1, 2), (1, 2)), at((0, 1), (1, 2), (1, 2)), at((1, 2), (1, 1), (1, 2)),
    # A pole with a common divisor or a bottom below 1.
    at((2, 4)), at((0, 2)), at((6, 3)), at((-3, 9)), at((1, 0)), at((0, 0)), at((1, -1)), at((0, -1)), at((-1, -2)),
    at((1, 2), (2, 2)), at((1, 2), (2, 4)),
    # Lists and bools.
    [(), ()], ([], ()), ((), []), ([ONE], ()), ((), [((0, 1), (ONE,))]), ((), ([(0, 1), (ONE,)],)),
    ((), (([0, 1], (ONE,)),)), ((), (((0, 1), [ONE]),)), ((), (((0, 1), ([(1, 1, 1)],)),)),
    ((), (((0, 1), (([1, 1, 1],),)),)), at((True, 1)), at((False, 1)), at((1, True)), at((0, True)),
    ((), (((0, 1), (((1, True, 1),),)),)), ((), (((0, 1), (True,)),)), (True, ()), ((), True), ((True,), ()),
    # Too few or too many parts, other values nested.
    (), ((),), ((), (), ()), ((ONE,),), ((), ((0, 1),)), ((), ((0, 1), (ONE,))), ((), (((0, 1), (ONE,), ()),)),
    ((), (((0, 1),),)), ((), (((0,), (ONE,)),)), ((), (((0, 1, 1), (ONE,)),)), ((), ((0, (ONE,)),)),
    ((), ((((0, 1),), (ONE,)),)), ((), ((None, (ONE,)),)), ((), (("01", (ONE,)),)), ((), (((0, "1"), (ONE,)),)),
    ((), (((0, None), (ONE,)),)), ((), (((0, 1), ONE),)), ((), (((0, 1), None),)), ((), None), (None, ()), None, 0,
    "", {}, (ONE, ()), ((), ONE), ({}, {}), ((), {}), ((((-1, 1, 1),), ()),),
)


class PolynomialsTest(SameCase):
    def test_right(self):
        for thing in POLYNOMIALS:
            self.assertTells(True, is_polynomial, thing)
        for number in NUMBERS:
            self.assertTells(number != (), is_polynomial, (ONE, number))
            self.assertTells(True, is_polynomial, (number, ONE))

    def test_wrong(self):
        for thing in NO_POLYNOMIALS:
            self.assertTells(False, is_polynomial, thing)
        for thing in NO_NUMBERS:
            self.assertTells(False, is_polynomial, (thing, ONE))
            self.assertTells(False, is_polynomial, (ONE, thing))

    def test_one_part_spoiled(self):
        source = random.Random(21)
        told = {True: 0, False: 0}
        for _ in range(2500):
            thing = makers.spoiled(source, makers.row(source, source.randint(0, 4), 2))
            whether = is_polynomial(thing)
            self.assertEqual(whether, oracle.is_row(thing), thing)
            self.assertIs(type(whether), bool)
            told[whether] += 1
        self.assertGreater(min(told.values()), 200)


class QuotientsTest(SameCase):
    def test_right(self):
        for thing in QUOTIENTS:
            self.assertTells(True, is_quotient, thing)
            self.assertTrue(oracle.is_quotient(thing))

    def test_wrong(self):
        for thing in NO_QUOTIENTS:
            self.assertTells(False, is_quotient, thing)
            self.assertTells(False, is_equation, thing)
            self.assertFalse(oracle.is_quotient(thing))

    def test_numbers_and_polynomials_in_them(self):
        for thing in NO_POLYNOMIALS:
            self.assertTells(False, is_quotient, (thing, ()))
            self.assertTells(False, is_quotient, ((), (((0, 1), thing),)))
        for thing in NO_NUMBERS:
            self.assertTells(False, is_quotient, ((thing, ONE), ()))
            self.assertTells(False, is_quotient, ((), (((0, 1), (ONE, thing)),)))

    def test_one_part_spoiled(self):
        source = random.Random(22)
        told = {True: 0, False: 0}
        for _ in range(6000):
            orders = [source.randint(1, 2) for _ in range(source.randint(0, 3))]
            thing = makers.quotient(source, source.randint(-1, 2), orders, 1, 1, 3)
            for _ in range(source.randint(1, 2)):
                thing = makers.spoiled(source, thing)
            whether = is_quotient(thing)
            self.assertEqual(whether, oracle.is_quotient(thing), thing)
            self.assertIs(type(whether), bool)
            told[whether] += 1
        self.assertGreater(min(told.values()), 300)


class EquationsTest(SameCase):
    def test_plain(self):
        for thing in (
            ((), ()), ((ONE,), ()), (((), HALF), ()), at((0, 1), (1, 2)), ((HALF, (), ONE), (((1, 2), ((), HALF)),)),
            ((((1, -1, 1),),), ()),
        ):
            self.assertTells(True, is_equation, thing)

    def test_not_plain_in_just_one_number(self):
        for number in (I, ((2, 1, 1),), ((-1, 1, 1), (1, 1, 1)), ((1, 1, 1), (2, 1, 1))):
            for thing in (
                ((number,), ()), ((number, ONE), ()), ((ONE, number), ()), ((), (((0, 1), (number,)),)),
                ((), (((0, 1), (number, ONE)),)), ((ONE,), (((0, 1), (ONE,)), ((1, 1), (ONE, number)))),
            ):
                self.assertTells(False, is_equation, thing)
                self.assertTells(True, is_quotient, thing)

    def test_the_number_itself_is_none(self):
        self.assertTells(False, is_equation, (((-1, 1, 1),), ()))

    def test_all_quotients(self):
        for thing in QUOTIENTS:
            rows = [thing[0]] + [row for _, row in thing[1]]
            plain = all(d == 1 for row in rows for number in row for d, _, _ in number)
            self.assertTells(plain, is_equation, thing)


if __name__ == "__main__":
    unittest.main()
