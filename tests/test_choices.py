"""4.1 and 4.2: choices and lines."""

import random
import unittest
from fractions import Fraction
from itertools import product as pairs

import second
import wrong
from equations import ONE, ZERO, bessel, led_by, number, power, quotient, total, weber
from same import SameCase, kept
from twiceslope.errors import BadEquation, BadPoint
from twiceslope.numbers import added, root_of, times
from twiceslope.quotients import is_quotient, plus, product, row_at, row_far, slope
from twiceslope.slopes import choices_at, choices_far, lines

HALF = ((1, 1, 2),)
NONE_BESIDE = (Fraction(1, 4), Fraction(1), Fraction(-1, 2), Fraction(-7), Fraction(3, 5), Fraction(-1000), Fraction(7, 9))


def remainder(r, w):
    """w' + w w - r."""
    return second.minus(plus(slope(w), product(w, w)), r)


def rest_at(r, c, choice):
    """The least power of x - c at which the choice does not solve w' + w w = r; 99 if there is none."""
    part, e = choice
    rest = remainder(r, plus(part, ((), ((c, (e,)),) if e else ())))
    return 99 if rest == ZERO else row_at(rest, c, 1)[0]


def rest_far(r, choice):
    part, e = choice
    rest = remainder(r, plus(part, ((), (((0, 1), (e,)),) if e else ())))
    return -99 if rest == ZERO else row_far(rest, 1)[0]


def some_tail(source, order):
    told = [Fraction(source.randint(-9, 9), source.randint(1, 9)) for _ in range(order)]
    return told[:-1] + [told[-1] or Fraction(2, 3)]


class ChoicesAtTest(SameCase):
    def test_order_one(self):
        self.assertTells(((ZERO, ONE),), choices_at, quotient([0, 1], {Fraction(-1, 2): [-5], 3: [1, 2, 3]}), (-1, 2))

    def test_order_two(self):
        told = quotient([1], {Fraction(2, 3): [5, Fraction(5, 16)]})
        self.assertTells(((ZERO, ((1, 5, 4),)), (ZERO, ((1, -1, 4),))), choices_at, told, (2, 3))
        told = quotient([1], {Fraction(2, 3): [5, Fraction(-1, 4)]})
        self.assertTells(((ZERO, HALF),), choices_at, told, (2, 3))
        told = quotient([], {0: [0, Fraction(1, 4)]})
        self.assertTells(((ZERO, ((1, 1, 2), (2, 1, 2))), (ZERO, ((1, 1, 2), (2, -1, 2)))), choices_at, told, (0, 1))
        told = quotient([], {0: [0, Fraction(-1, 2)]})
        self.assertTells(((ZERO, ((-1, 1, 2), (1, 1, 2))), (ZERO, ((-1, -1, 2), (1, 1, 2)))), choices_at, told, (0, 1))

    def test_order_two_sums(self):
        for b in NONE_BESIDE + (Fraction(2), Fraction(-2, 9), Fraction(5, 16)):
            told = quotient([0, 3], {Fraction(1, 5): [Fraction(4, 7), b], 2: [1]})
            (part, e), (other, f) = kept(choices_at, told, (1, 5))
            self.assertEqual((part, other), (ZERO, ZERO))
            self.assertSame(added(e, f), ONE)
            self.assertSame(times(e, f), number(-b))
            # The root is that of root_of: so the first one is the half of 1 and of that root.
            self.assertSame(added(added(e, e), ((1, -1, 1),)), root_of((1 + 4 * b).numerator, (1 + 4 * b).denominator))
            for choice in ((part, e), (other, f)):
                self.assertGreaterEqual(rest_at(told, (1, 5), choice), -1)

    def test_order_four(self):
        told = quotient([], {1: [7, 5, 6, 9]})
        three = (((), (((1, 1), ((), ((1, 3, 1),))),)), number(2))
        less = (((), (((1, 1), ((), ((1, -3, 1),))),)), ())
        self.assertTells((three, less), choices_at, told, (1, 1))

    def test_order_six(self):
        told = quotient([], {1: [7, 5, 6, 9, 8, 4]})
        # (2 / u ** 3 + 2 / u ** 2) ** 2 = 4 / u ** 6 + 8 / u ** 5 + 4 / u ** 4, and 5 / u ** 4 is left.
        first = (((), (((1, 1), ((), number(2), number(2))),)), number(Fraction(11, 4)))
        then = (((), (((1, 1), ((), number(-2), number(-2))),)), number(Fraction(1, 4)))
        self.assertTells((first, then), choices_at, told, (1, 1))

    def test_even_orders(self):
        source = random.Random(41)
        for order in (4, 6):
            k = order // 2
            for _ in range(40):
                c = Fraction(source.randint(-20, 20), source.randint(1, 20))
                tails = {c: some_tail(source, order), c + 1: some_tail(source, source.randint(1, 6))}
                told = quotient(some_tail(source, source.randint(1, 6)), tails)
                pole = (c.numerator, c.denominator)
                (part, e), (other, f) = kept(choices_at, told, pole)
                self.assertTrue(is_quotient(part))
                self.assertSame(plus(part, other), ZERO)
                self.assertSame(added(e, f), number(k))
                self.assertEqual([c for c, _ in part[1]], [pole])
                self.assertEqual((part[0], len(part[1][0][1]), part[1][0][1][0]), ((), k, ()))
                self.assertSame(part[1][0][1][-1], root_of(tails[c][-1].numerator, tails[c][-1].denominator))
                for choice in ((part, e), (other, f)):
                    self.assertGreaterEqual(rest_at(told, pole, choice), -k)

    def test_odd_orders(self):
        for order in (3, 5):
            self.assertTells((), choices_at, quotient([1, 1], {0: [1] * order, 1: [1]}), (0, 1))
            self.assertTells(((ZERO, ONE),), choices_at, quotient([1, 1], {0: [1] * order, 1: [1]}), (1, 1))


class ChoicesFarTest(SameCase):
    def test_small(self):
        told = ((ZERO, ()), (ZERO, ONE))
        self.assertTells(told, choices_far, ZERO)
        for r in (power(-3), power(-6), quotient([], {0: [1], 1: [-2], 2: [1]})):
            self.assertTells(told, choices_far, r)

    def test_like_a_square(self):
        self.assertTells(((ZERO, number(2)), (ZERO, number(-1))), choices_far, quotient([], {0: [0, 2]}))
        self.assertTells(((ZERO, HALF),), choices_far, quotient([], {0: [1, Fraction(-5, 4)], 1: [-1, 2]}))
        for b in NONE_BESIDE:
            (part, e), (other, f) = kept(choices_far, quotient([], {Fraction(1, 2): [0, b]}))
            self.assertEqual((part, other), (ZERO, ZERO))
            self.assertSame(added(e, f), ONE)
            self.assertSame(times(e, f), number(-b))
            self.assertSame(added(added(e, e), ((1, -1, 1),)), root_of((1 + 4 * b).numerator, (1 + 4 * b).denominator))

    def test_degree_zero(self):
        self.assertTells(((((ONE,), ()), ()), (((((1, -1, 1),),), ()), ())), choices_far, quotient([1], {0: [0, 2]}))
        told = ((((((-1, 1, 1),),), ()), ((-1, -3, 2),)), (((((-1, -1, 1),),), ()), ((-1, 3, 2),)))
        self.assertTells(told, choices_far, quotient([-1], {0: [3, 7]}))

    def test_even_degrees(self):
        source = random.Random(42)
        for k in range(4):
            for _ in range(25):
                whole = some_tail(source, 2 * k + 1)
                told = quotient(whole, {Fraction(1, 3): some_tail(source, 3), -2: some_tail(source, 1)})
                (part, e), (other, f) = kept(choices_far, told)
                self.assertSame(plus(part, other), ZERO)
                self.assertSame(added(e, f), number(-k))
                self.assertEqual((len(part[0]), part[1]), (k + 1, ()))
                self.assertSame(part[0][-1], root_of(whole[-1].numerator, whole[-1].denominator))
                for choice in ((part, e), (other, f)):
                    self.assertLessEqual(rest_far(told, choice), k - 2)

    def test_far_rests(self):
        for r in (ZERO, power(-3), quotient([], {0: [1, 2], 1: [-1, 3]}), power(-2), bessel(Fraction(1, 3))):
            for choice in choices_far(r):
                self.assertLessEqual(rest_far(r, choice), -2 if r == bessel(Fraction(1, 3)) else -3)

    def test_odd_degrees(self):
        for r in (power(1), power(3), power(5), power(-1), quotient([1, 1], {0: [0, 1]})):
            self.assertTells((), choices_far, r)


class LinesTest(SameCase):
    def test_shut_and_open(self):
        self.assertTells(((ZERO, 0), (ZERO, 1)), lines, ZERO)
        self.assertTells((), lines, power(2))
        self.assertTells((), lines, power(1))
        self.assertTells((), lines, quotient([1], {0: [0, 0, 2], 1: [0, 2]}))
        told = kept(lines, quotient([], {0: [0, 2]}))
        less = ((), (((0, 1), (number(-1),)),))
        self.assertSame(told, ((((), (((0, 1), (number(2),)),)), 0), (less, 3), (less, 0)))

    def test_order(self):
        # Each pole has the choices 2 and -1, and far away there are 0 and 1.
        r = quotient([], {-1: [-5, 2], 0: [0, 2], 1: [-1, 2], 3: [6, 2]})
        told = []
        for worths in pairs((2, -1), (2, -1), (2, -1), (2, -1), self.far(r)):
            d = worths[-1] - sum(worths[:-1])
            if d >= 0:
                told.append((total(quotient([], {c: [e]}) for c, e in zip((-1, 0, 1, 3), worths)), d))
        self.assertGreater(len(told), 5)
        self.assertSame(kept(lines, r), tuple(told))

    def far(self, r):
        worths = [second.oracle.surd(e) for _, e in choices_far(r)]
        self.assertTrue(all(set(worth) <= {frozenset()} for worth in worths))
        return [int(worth.get(frozenset(), 0)) for worth in worths]

    def test_by_definition(self):
        source = random.Random(43)
        many = 0
        for _ in range(60):
            poles = source.sample(range(-20, 21), source.randint(0, 4))
            tails = {Fraction(c, 3): [source.randint(-4, 4), source.choice((0, 0, 1, -2))] for c in poles}
            r = led_by(quotient(source.choice(([], [1], [2, 3], [0, 0, -1])), tails))
            told = [line for line in second.outlines(r) if line is not None]
            self.assertSame(kept(lines, r), tuple(told))
            many += len(told)
        self.assertGreater(many, 60)

    def test_counts(self):
        for d in range(13):
            self.assertEqual([found for _, found in kept(lines, weber(Fraction(2 * d + 1, 2)))], [d])
            self.assertEqual(kept(lines, weber(Fraction(2 * d + 2, 2))), ())

    def test_roots_that_meet(self):
        # Both roots are that of 2, at the pole and far away: they may cancel each other.
        r = quotient([], {0: [0, Fraction(1, 4)], 1: [0, 0, 0, 1]})
        told = kept(lines, r)
        self.assertSame(told, tuple(line for line in second.outlines(r) if line is not None))
        r = quotient([], {0: [0, Fraction(1, 4)]})
        self.assertEqual([d for _, d in kept(lines, r)], [0, 0])
        self.assertSame(lines(r)[1][0], ((), (((0, 1), (((1, 1, 2), (2, -1, 2)),)),)))

    def test_roots_that_are_left(self):
        # Each pole has 1/2 and a half of the root of 2, or less it; only unlike signs leave an integer.
        r = quotient([1], {0: [3, Fraction(1, 4)], 1: [5, Fraction(1, 4)]})
        more, less = ((1, 1, 2), (2, 1, 2)), ((1, 1, 2), (2, -1, 2))
        told = tuple((((ONE,), (((0, 1), (e,)), ((1, 1), (f,)))), 3) for e, f in ((more, less), (less, more)))
        self.assertTells(told, lines, r)

    def test_trunk_without_tail(self):
        # At 0 the second choice has the number 0: the part alone is left.
        r = quotient([], {0: [0, 0, 2, 1]})
        self.assertEqual([e for _, e in choices_at(r, (0, 1))], [number(2), ()])
        trunk = ((), (((0, 1), ((), ((1, -1, 1),))),))
        self.assertTells(((trunk, 0), (trunk, 1)), lines, r)


class ErrorsTest(SameCase):
    def test_no_equation(self):
        for thing in wrong.EQUATIONS:
            self.assertBad(BadEquation, thing, choices_far, thing)
            self.assertBad(BadEquation, thing, lines, thing)
            self.assertBad(BadEquation, thing, choices_at, thing, (0, 1))
            self.assertBad(BadEquation, thing, choices_at, c=None, r=thing)

    def test_no_pole(self):
        for thing in wrong.POINTS + ((1, 1), (-1, 1), (10 ** 39, 1)):
            self.assertBad(BadPoint, thing, choices_at, bessel(Fraction(1, 3)), thing)
            self.assertBad(BadPoint, thing, choices_at, ZERO, c=thing)


if __name__ == "__main__":
    unittest.main()
