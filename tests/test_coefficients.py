"""8.1: rows of coefficients of answers."""

import random
import unittest
from fractions import Fraction

import makers
import oracle
import wrong
from equations import ONE, ZERO, bessel, led_by, linear, number, power, quotient, root, three_points, weber, whittaker
from same import SameCase, is_exact, kept
from test_answers import ALWAYS, DOUBLED, ONCE, TWICE
from test_pairs import ROOTED, multiplied, written_otherwise
from twiceslope.errors import BadAnswer, BadEquation, BadNumber, BadPoint
from twiceslope.numbers import added, times
from twiceslope.quotients import product
from twiceslope.rows import answer_row, row_of_answer
from twiceslope.slopes import answers

HALF, THIRD = Fraction(1, 2), Fraction(1, 3)
SURD, OTHER = ((-6, 1, 2), (1, -3, 1)), ((2, 5, 7), (15, -1, 3))
EQUATIONS = (
    ZERO, power(0), power(1), power(6), quotient([1, -2, 0, Fraction(3, 7)]), power(-2), power(-4), bessel(THIRD),
    weber(2), whittaker(Fraction(1, 5), THIRD), three_points(HALF, THIRD, Fraction(1, 7)),
    quotient([Fraction(2, 9), -1], {-3: [1, 2, 3], Fraction(1, 2): [0, 5], 2: [HALF, 0, 0, 0, 0, -1]}),
    quotient([], {-3: [1], Fraction(1, 2): [0, 5], 2: [HALF, 1], Fraction(20, 3): [0, 0, 1]}),
)
POINTS = ((0, 1), (1, 1), (-1, 1), (1, 2), (-2, 3), (7, 5), (20, 1), (-19, 20), (1, 20))
WRONG_NUMBERS = makers.ODD_VALUES + (
    0, 1, ((1, 2, 2),), ((4, 1, 1),), ((1, 0, 1),), ((2, 1, 1), (1, 1, 1)), ((1, 1, 1), (1, 1, 1)), [], ((),),
    (1, 1, 1), ((1, 1, -1),), ((True, 1, 1),), ((1, 1, True),), [(1, 1, 1)], ([1, 1, 1],), ((1, 1),), ((1, 1, 1, 1),),
)


def is_pole(r, c):
    return c in [pole for pole, _ in r[1]]


def series(r, c, many):
    """The first numbers of an equation at a Fraction that is no pole, as surds."""
    k, numbers = oracle.row_at(r, c, many + 1)
    return ([{} for _ in range(k)] + numbers + [{} for _ in range(many)])[:many]


def rest(told, given):
    """What is left of the rule of 8.1 for each k."""
    found = []
    for k in range(len(told) - 2):
        total = oracle.multiply(oracle.rational(-(k + 2) * (k + 1)), told[k + 2])
        for i in range(k + 1):
            total = oracle.add(total, oracle.multiply(given[i], told[k - i]))
        found.append(total)
    return found


def exponential_row(factor, many):
    """The row of e ** (factor x) at 0."""
    told, now = [], ONE
    for k in range(many):
        told.append(now)
        now = times(now, times(factor, number(Fraction(1, k + 1))))
    return tuple(told)


class AnswerRowTest(SameCase):
    def check(self, r, c, first, second, many):
        told = kept(answer_row, r, c, first, second, many)
        self.assertEqual(len(told), many)
        self.assertTrue(is_exact(told))
        self.assertSame(told[:2], (first, second)[:many])
        surds = [oracle.surd(one) for one in told]
        self.assertFalse(any(rest(surds, series(r, Fraction(*c), many))))
        return told

    def test_told(self):
        fractions = (1, 1, HALF, Fraction(1, 6), Fraction(1, 24))
        self.assertTells(tuple(number(one) for one in fractions), answer_row, power(0), (0, 1), ONE, ONE, 5)
        told = (ONE, (), number(-HALF), (), number(Fraction(1, 24)))
        self.assertTells(told, answer_row, quotient([-1]), (5, 7), ONE, (), 5)
        self.assertTells((SURD, OTHER, (), (), (), ()), answer_row, ZERO, (1, 2), SURD, OTHER, 6)
        self.assertTells(((),) * 24, answer_row, bessel(THIRD), (1, 2), (), (), 24)
        # G. Airy's equation at 1: r is 1 + (x - 1).
        told = (ONE, (), number(HALF), number(Fraction(1, 6)), number(Fraction(1, 24)), number(Fraction(1, 30)))
        self.assertTells(told, answer_row, power(1), (1, 1), ONE, (), 6)
        # x * x and 1 / x at 1.
        r = quotient([], {0: [0, 2]})
        self.assertTells((ONE, number(2), ONE, (), ()), answer_row, r, (1, 1), ONE, number(2), 5)
        told = tuple(number((-1) ** k) for k in range(24))
        self.assertTells(told, answer_row, r, (1, 1), ONE, number(-1), 24)

    def test_few(self):
        for r in EQUATIONS:
            c = [c for c in POINTS if not is_pole(r, c)][0]
            self.assertTells((), answer_row, r, c, SURD, OTHER, 0)
            self.assertTells((SURD,), answer_row, r, c, SURD, OTHER, 1)
            self.assertTells((SURD, OTHER), answer_row, r, c, SURD, OTHER, 2)

    def test_points(self):
        source = random.Random(81)
        for r in EQUATIONS:
            for c in POINTS:
                if not is_pole(r, c):
                    first, second = (makers.number(source, source.randint(0, 2), 2) for _ in range(2))
                    self.check(r, c, first, second, source.randint(3, 9))

    def test_all_lengths(self):
        for r, c in ((EQUATIONS[-1], (1, 2)), (EQUATIONS[-2], (1, 3)), (power(1), (0, 1))):
            c = (5, 7) if is_pole(r, c) else c
            longest = self.check(r, c, SURD, OTHER, 24)
            for many in range(25):
                self.assertTells(longest[:many], answer_row, r, c, SURD, OTHER, many)

    def test_sums(self):
        for r in EQUATIONS:
            c = [c for c in POINTS if not is_pole(r, c)][-1]
            one, other = answer_row(r, c, ONE, (), 10), answer_row(r, c, (), ONE, 10)
            told = tuple(added(times(SURD, one[k]), times(OTHER, other[k])) for k in range(10))
            self.assertTells(told, answer_row, r, c, SURD, OTHER, 10)

    def test_exponentials(self):
        for factor in (((2, 1, 1),), ((-1, 3, 2),), number(Fraction(-5, 3)), ((6, -1, 5),)):
            square = times(factor, factor)
            told = exponential_row(factor, 24)
            self.assertTells(told, answer_row, ((square,), ()), (3, 4), ONE, factor, 24)

    def test_no_equation(self):
        for thing in wrong.EQUATIONS:
            self.assertBad(BadEquation, thing, answer_row, thing, (0, 1), ONE, ONE, 4)
            self.assertBad(BadEquation, thing, answer_row, thing, None, None, None, 4)
            self.assertBad(BadEquation, thing, answer_row, many=4, second=[], first=0, c=(0, 0), r=thing)

    def test_no_point(self):
        for r in EQUATIONS:
            for thing in wrong.POINTS + tuple(pole for pole, _ in r[1]):
                for first, second, many in ((ONE, ONE, 4), (None, [], 4), (ONE, ONE, 0)):
                    self.assertBad(BadPoint, thing, answer_row, r, thing, first, second, many)
        # A pole of another equation is none of this one.
        kept(answer_row, power(-2), (1, 1), ONE, ONE, 4)

    def test_no_number(self):
        for thing in WRONG_NUMBERS:
            if thing != []:
                self.assertBad(BadNumber, thing, answer_row, power(1), (0, 1), thing, [], 4)
            self.assertBad(BadNumber, thing, answer_row, power(1), (0, 1), thing, ONE, 4)
            self.assertBad(BadNumber, thing, answer_row, power(1), (0, 1), ONE, thing, 4)
            self.assertBad(BadNumber, thing, answer_row, power(1), (0, 1), ONE, thing, 0)
            self.assertBad(BadNumber, [thing], answer_row, power(1), (0, 1), second=thing, first=[thing], many=1)


class RowOfAnswerTest(SameCase):
    def check(self, r, answer, c, many):
        """The row times t P is that of the slope: P times the slope of the row is (t P + P') times the row."""
        told = kept(row_of_answer, r, answer, c, many)
        self.assertEqual(len(told), many)
        self.assertTrue(is_exact(told))
        surds = [oracle.surd(one) for one in told]
        if many:
            self.assertSame(told[0], ONE)
        self.assertFalse(any(rest(surds, series(r, Fraction(*c), many))))
        if many > 2:
            t, whole = [series(one, Fraction(*c), many) for one in (answer[0], (answer[1], ()))]
            slope = [oracle.multiply(oracle.rational(k), surds[k]) for k in range(1, many)]
            whole_slope = [oracle.multiply(oracle.rational(k), whole[k]) for k in range(1, many)]
            above = [oracle.add(a, b) for a, b in zip(oracle.series_product(t, whole, many - 1), whole_slope)]
            left = oracle.series_product(slope, whole[:many - 1], many - 1)
            self.assertEqual(left, oracle.series_product(above, surds[:many - 1], many - 1))
        return told

    def test_told(self):
        told = (ONE, (), number(HALF), (), number(Fraction(1, 8)))
        self.assertTells(told, row_of_answer, quotient([1, 0, 1]), (quotient([0, 1]), (ONE,)), (0, 1), 5)
        r = quotient([], {0: [0, 2]})
        told = tuple(number((-1) ** k) for k in range(6))
        self.assertTells(told, row_of_answer, r, (root(0, -1), (number(5),)), (1, 1), 6)
        self.assertTells((ONE, ONE, number(Fraction(1, 4)), ()), row_of_answer, r, (root(0, 2), (ONE,)), (2, 1), 4)
        # 1 + x ** 3 over x.
        told = row_of_answer(r, (root(0, -1), (ONE, (), (), ONE)), (1, 1), 4)
        self.assertSame(told, (ONE, number(HALF), ONE, number(-HALF)))
        answer = (((((2, 1, 1),),), ()), (SURD,))
        self.assertTells((ONE, ((2, 1, 1),), ONE), row_of_answer, quotient([2]), answer, (9, 2), 3)
        # x + the root of 2 at 0: 1 over the root of 2 is half of it.
        self.assertTells((ONE, ((2, 1, 2),), ()), row_of_answer, ZERO, (ZERO, (((2, 1, 1),), ONE)), (0, 1), 3)

    def test_all_kinds(self):
        source = random.Random(82)
        for r in ONCE + TWICE + ALWAYS + ROOTED:
            for answer in answers(r):
                for c in POINTS:
                    if not (is_pole(r, c) or is_pole(answer[0], c) or not oracle.value((answer[1], ()), Fraction(*c))):
                        self.check(r, answer, c, source.randint(0, 7))

    def test_alike(self):
        source = random.Random(83)
        for r in ONCE + TWICE + ALWAYS + ROOTED[:4]:
            for answer in answers(r):
                c = (17, 13)
                told = self.check(r, answer, c, 8)
                for other in (
                    multiplied(answer, SURD), written_otherwise(source, answer), multiplied(answer, number(-HALF)),
                ):
                    self.assertTells(told, row_of_answer, r, other, c, 8)

    def test_is_a_row_of_the_equation(self):
        for r in TWICE:
            for answer in answers(r):
                told = self.check(r, answer, (17, 13), 24)
                self.assertTells(told, answer_row, r, (17, 13), told[0], told[1], 24)
                for many in (0, 1, 2, 3, 23):
                    self.assertTells(told[:many], row_of_answer, r, answer, (17, 13), many)

    def test_no_equation(self):
        right = (quotient([1]), (ONE,))
        for thing in wrong.EQUATIONS:
            self.assertBad(BadEquation, thing, row_of_answer, thing, right, (0, 1), 4)
            self.assertBad(BadEquation, thing, row_of_answer, thing, None, None, 4)
            self.assertBad(BadEquation, thing, row_of_answer, many=4, c=(0, 0), answer=[], r=thing)

    def test_no_answer(self):
        for thing in makers.ODD_VALUES + (
            (ZERO, (ONE,)), (quotient([1]), ()), (quotient([1]), (ONE, ONE)), [quotient([1]), (ONE,)],
            (quotient([1]), [ONE]), (quotient([1]), (ONE,), 1), (quotient([1]),), (ONE, quotient([1])), quotient([1]),
        ):
            for c in ((0, 1), None, (0, 0)):
                self.assertBad(BadAnswer, thing, row_of_answer, power(0), thing, c, 4)

    def test_no_point(self):
        for r in TWICE + ALWAYS:
            for answer in answers(r):
                for thing in wrong.POINTS + tuple(pole for pole, _ in r[1] + answer[0][1]):
                    self.assertBad(BadPoint, thing, row_of_answer, r, answer, thing, 4)
                    self.assertBad(BadPoint, thing, row_of_answer, r, answer, thing, 0)

    def test_pole_of_t_alone(self):
        right = (quotient([1]), (ONE,))
        t, whole = product(quotient([1]), quotient([1])), product((linear(3), ()), (linear(3), ()))[0]
        written = ((t[0], root(3, -2)[1]), whole)
        self.assertBad(BadPoint, (3, 1), row_of_answer, power(0), written, (3, 1), 4)
        self.assertTells(row_of_answer(power(0), right, (2, 1), 6), row_of_answer, power(0), written, (2, 1), 6)
        # A pole of t that is no zero of the polynomial: the answer itself is zero there.
        self.assertBad(BadPoint, (0, 1), row_of_answer, ZERO, (root(0), (ONE,)), (0, 1), 4)
        kept(row_of_answer, ZERO, (root(0), (ONE,)), (1, 1), 4)

    def test_zero(self):
        self.assertBad(BadPoint, (0, 1), row_of_answer, ZERO, (ZERO, ((), ONE)), (0, 1), 4)
        self.assertBad(BadPoint, (1, 2), row_of_answer, ZERO, (ZERO, (SURD, times(SURD, number(-2)))), (1, 2), 4)
        answer = answers(weber(Fraction(-5, 2)))[0]
        for c in ((1, 1), (-1, 1)):
            self.assertBad(BadPoint, c, row_of_answer, weber(Fraction(-5, 2)), answer, c, 4)
        kept(row_of_answer, weber(Fraction(-5, 2)), answer, (0, 1), 4)
        # 0 is a zero of the polynomial and a pole of both.
        answer = (quotient([1], {0: [-1]}), ((), (), (), ONE))
        self.assertBad(BadPoint, (0, 1), row_of_answer, DOUBLED, answer, (0, 1), 4)


class LimitsTest(SameCase):
    def test_long_rows(self):
        r = EQUATIONS[-2]
        first, second = ((-999983, 10 ** 29 + 1, 10 ** 29 + 3), (2, 1, 10 ** 20)), ((3, -(10 ** 29), 7), (999979, 1, 3))
        told = answer_row(r, (-19, 20), first, second, 24)
        self.assertFalse(any(rest([oracle.surd(one) for one in told], series(r, Fraction(-19, 20), 24))))
        tails = {Fraction(-19, 20): [-HALF, 0, 1], Fraction(1, 17): [2], 3: [0, 1], Fraction(20, 7): [-1, 1, 1]}
        w = quotient([HALF, 3], tails)
        r = led_by(w)
        self.assertEqual(sorted(len(row) for _, row in r[1]), [2, 4, 6, 6])
        told = row_of_answer(r, (w, (SURD,)), (19, 20), 24)
        self.assertFalse(any(rest([oracle.surd(one) for one in told], series(r, Fraction(19, 20), 24))))

    def test_long_polynomials(self):
        r = bessel(Fraction(25, 2))
        for answer in answers(r):
            RowOfAnswerTest.check(self, r, answer, (7, 20), 24)


if __name__ == "__main__":
    unittest.main()
