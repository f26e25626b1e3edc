"""9.1: equations with a first slope, and those that are led from them."""

import random
import unittest
from fractions import Fraction

import makers
import oracle
import wrong
from equations import ONE, ZERO, bessel, number, power, quotient, root, scaled
from same import SameCase, is_exact, kept
from second import minus
from test_answers import ALWAYS, DOUBLED, ONCE, TWICE
from test_pairs import ROOTED, multiplied, written_otherwise
from twiceslope.changes import carried, is_answer_of, led
from twiceslope.errors import BadAnswer, BadEquation
from twiceslope.quotients import is_equation, is_quotient, plus, product, slope
from twiceslope.slopes import answers, is_answer
from twiceslope.verdict import verdict

HALF = Fraction(1, 2)
SURD = ((-6, 1, 2), (1, -3, 1))
ROOT = ((((2, 1, 1),),), ())
UNIT, X = quotient([1]), quotient([0, 1])
EQUATIONS = ONCE + TWICE + ALWAYS + ROOTED
# Quotients p: none, one to three poles, of which some are poles of the equations above.
FIRSTS = (
    ZERO, UNIT, quotient([Fraction(-2, 3), 1]), quotient([], {0: [1]}), quotient([], {0: [1], 1: [-HALF]}),
    quotient([3], {0: [HALF, 1], Fraction(1, 3): [2]}), quotient([0, 0, 1], {-2: [Fraction(1, 3)], 5: [0, -1], 2: [1]}),
)


def by_definition(p, q, thing):
    """Whether a value is an answer of p and q, by 9.1."""
    if type(thing) is not tuple or len(thing) != 2:
        return False
    t, whole = thing
    if not oracle.is_quotient(t) or not oracle.is_row(whole) or whole == ():
        return False
    first = slope((whole, ()))
    told = plus(slope(first), product(plus(scaled(t, 2), p), first))
    rest = plus(plus(slope(t), product(t, t)), plus(product(p, t), q))
    return plus(told, product(rest, (whole, ()))) == ZERO


def before(p, r):
    """The q with which p leads to an equation."""
    return minus(plus(scaled(slope(p), HALF), scaled(product(p, p), Fraction(1, 4))), r)


class LedTest(SameCase):
    def check(self, p, q):
        told = kept(led, p, q)
        self.assertTrue(is_equation(told) and is_exact(told))
        bound = 2 * oracle.size(p) + oracle.size(q) + 4
        for x in oracle.points(bound, oracle.poles(p, q)):
            here = oracle.value(p, x)
            worth = oracle.add(
                oracle.multiply(oracle.rational(1, 2), oracle.slope_value(p, x)),
                oracle.multiply(oracle.rational(1, 4), oracle.multiply(here, here)),
            )
            worth = oracle.add(worth, oracle.multiply(oracle.rational(-1), oracle.value(q, x)))
            self.assertEqual(oracle.value(told, x), worth)
        return told

    def test_told(self):
        self.assertTells(ZERO, led, ZERO, ZERO)
        self.assertTells(quotient([-1]), led, ZERO, UNIT)
        self.assertTells(ZERO, led, quotient([2]), UNIT)
        self.assertTells(quotient([HALF, 0, Fraction(1, 4)]), led, X, ZERO)
        # y'' + y' / x + y = 0 is F. Bessel's equation with 0.
        self.assertTells(bessel(0), led, quotient([], {0: [1]}), UNIT)
        for n in (0, 1, 3 * HALF, Fraction(-1, 3)):
            self.assertTells(bessel(n), led, quotient([], {0: [1]}), quotient([1], {0: [0, -Fraction(n) ** 2]}))
        # C. Hermite's: y'' - 2 x y' + 2 n y = 0.
        self.assertTells(quotient([-7, 0, 1]), led, quotient([0, -2]), quotient([6]))

    def test_drawn(self):
        source = random.Random(84)
        for _ in range(40):
            p, q = (
                makers.plain_quotient(source, source.randint(-1, 3), [source.randint(1, 3)] * source.randint(0, 2),
                    size=4)
                for _ in range(2)
            )
            self.check(p, q)

    def test_before(self):
        for r in EQUATIONS:
            for p in FIRSTS:
                self.assertTells(r, led, p, before(p, r))

    def test_no_plain_quotient(self):
        for thing in wrong.EQUATIONS + (ROOT, ((), (((0, 1), (SURD,)),))):
            for call, more in ((led, ()), (is_answer_of, ((ZERO, (ONE,)),)), (is_answer_of, (None,)),
                (carried, ((ZERO, (ONE,)),)),
                               (carried, (None,))):
                self.assertBad(BadEquation, thing, call, thing, X, *more)
                self.assertBad(BadEquation, thing, call, X, thing, *more)
                self.assertBad(BadEquation, thing, call, thing, [thing], *more)
                self.assertBad(BadEquation, [thing], call, [thing], thing, *more)
                self.assertBad(BadEquation, ROOT, call, ROOT, thing, *more)
            self.assertBad(BadEquation, [thing], led, q=thing, p=[thing])


class IsAnswerTest(SameCase):
    def test_told(self):
        self.assertTells(True, is_answer_of, quotient([2]), UNIT, (quotient([-1]), (ONE,)))
        self.assertTells(True, is_answer_of, quotient([2]), UNIT, (quotient([-1]), ((), ONE)))
        self.assertTells(False, is_answer_of, quotient([2]), UNIT, (UNIT, (ONE,)))
        self.assertTells(False, is_answer_of, quotient([2]), UNIT, (quotient([-1]), ((), (), ONE)))
        # C. Hermite's polynomial of the degree 3, 2 x * (2 x * x - 3).
        for whole, told in ((((), number(-3), (), number(2)), True), (((), number(3), (), number(2)), False),
            ((), False)):
            self.assertTells(told, is_answer_of, quotient([0, -2]), quotient([6]), (ZERO, whole))
        # y'' + y' / x = 0: any number, but the other answers are no quotients.
        self.assertTells(True, is_answer_of, quotient([], {0: [1]}), ZERO, (ZERO, (SURD,)))
        self.assertTells(False, is_answer_of, quotient([], {0: [1]}), ZERO, (ZERO, (ONE, ONE)))
        # With p = 0 it is is_answer of - q.
        self.assertTells(True, is_answer_of, ZERO, quotient([-2]), (ROOT, (SURD,)))
        self.assertTells(False, is_answer_of, ZERO, quotient([2]), (ROOT, (SURD,)))

    def test_moved(self):
        source = random.Random(85)
        found = {True: 0, False: 0}
        for r in EQUATIONS:
            for p in source.sample(FIRSTS, 3):
                q, half = before(p, r), scaled(p, HALF)
                for answer in answers(r):
                    for t, whole in (multiplied(answer, SURD), written_otherwise(source, answer)):
                        self.assertTells(True, is_answer_of, p, q, (minus(t, half), whole))
                        for thing in (
                            (t, whole), (plus(t, half), whole), (minus(t, p), whole), (minus(t, half), whole + (ONE,)),
                            (minus(t, half), ((),) + whole), (plus(minus(t, half), root(9)), whole),
                        ):
                            told = kept(is_answer_of, p, q, thing)
                            self.assertSame(told, by_definition(p, q, thing))
                            self.assertSame(told, is_answer(r, (plus(thing[0], half), thing[1])))
                            found[told] += 1
        self.assertGreater(min(found.values()), 50)

    def test_spoiled(self):
        source = random.Random(86)
        right = 0
        for r in (ZERO, power(0), DOUBLED, TWICE[-1], ROOTED[0]):
            for p in FIRSTS[:5]:
                q = before(p, r)
                t, whole = answers(r)[0]
                for _ in range(25):
                    thing = makers.spoiled(source, (minus(t, scaled(p, HALF)), whole))
                    told = kept(is_answer_of, p, q, thing)
                    self.assertSame(told, by_definition(p, q, thing))
                    right += told
        self.assertGreater(right, 10)

    def test_any_value(self):
        for p in FIRSTS:
            for thing in makers.ODD_VALUES + ((), (ZERO,), (ZERO, (ONE,), 1), [ZERO, (ONE,)], (ZERO, [ONE]),
                (ZERO, ()), (ONE, ZERO)):
                self.assertTells(False, is_answer_of, p, before(p, ZERO), thing)


class CarriedTest(SameCase):
    def test_told(self):
        self.assertTells((quotient([-1]), (ONE,)), carried, quotient([2]), UNIT, (ZERO, (ONE,)))
        # x y'' + y' = 0 has 1 as an answer, the root of x over the root of x.
        answer = (root(0, HALF), (number(3),))
        self.assertTells((ZERO, (number(3),)), carried, quotient([], {0: [1]}), ZERO, answer)
        self.assertTells((ROOT, (SURD,)), carried, ZERO, quotient([-2]), (ROOT, (SURD,)))

    def test_all(self):
        for r in EQUATIONS:
            for p in FIRSTS:
                q = before(p, r)
                for answer in answers(r) + tuple(multiplied(one, SURD) for one in answers(r)):
                    told = kept(carried, p, q, answer)
                    self.assertSame(told, (minus(answer[0], scaled(p, HALF)), answer[1]))
                    self.assertTrue(is_quotient(told[0]))
                    self.assertTells(True, is_answer_of, p, q, told)
                    self.assertTrue(by_definition(p, q, told))

    def test_no_answer(self):
        for r in (ZERO, power(0), DOUBLED, TWICE[-1]):
            t, whole = answers(r)[0]
            for p in FIRSTS:
                q = before(p, r)
                for thing in makers.ODD_VALUES + (
                    (t, ()), [t, whole], (t, list(whole)), (t, whole, 1), (t,), (whole, t), (plus(t, root(9)), whole),
                    (t, whole + (ONE,)) if r != ZERO else (t, whole + ((), (), ONE)),
                ):
                    self.assertBad(BadAnswer, thing, carried, p, q, thing)
                if p != ZERO:
                    # An answer of p and q is none of the led equation.
                    thing = (minus(t, scaled(p, HALF)), whole)
                    if not is_answer(r, thing):
                        self.assertBad(BadAnswer, thing, carried, p, q, thing)


class LimitsTest(SameCase):
    def test_four_poles(self):
        p = quotient([0, 1, Fraction(-1, 9), 2],
            {Fraction(-19, 20): [1, 2, 3], Fraction(1, 17): [-HALF, 2], Fraction(20, 7): [2], 3: [1]})
        w = quotient([HALF, 3], {Fraction(-19, 20): [-HALF, 0, 1], Fraction(1, 17): [2], 3: [0, 1],
            Fraction(20, 7): [-1, 1, 1]})
        r = plus(slope(w), product(w, w))
        q = before(p, r)
        self.assertTells(r, led, p, q)
        told = kept(carried, p, q, (w, (SURD,)))
        self.assertTells(True, is_answer_of, p, q, told)
        self.assertTells(False, is_answer_of, p, q, (w, (SURD,)))

    def test_numbers_of_many_digits(self):
        """Whether something is an answer is told without roots of what p and q come to."""
        source = random.Random(105)
        p, q = (makers.plain_quotient(source, 2, [2, 1], 8, 4) for _ in range(2))
        t, r = ZERO, led(p, ZERO)
        self.assertTells(True, is_answer_of, p, ZERO, (t, (SURD,)))
        self.assertTells((t, (SURD,)), carried, p, ZERO, (scaled(p, HALF), (SURD,)))
        self.assertTells(True, is_answer, r, (scaled(p, HALF), (ONE,)))
        for thing in ((t, (SURD,)), (p, (ONE,)), (scaled(p, HALF), (ONE, ONE)), (scaled(q, -HALF), (ONE,))):
            self.assertTells(False, is_answer_of, p, q, thing)
            self.assertBad(BadAnswer, thing, carried, p, q, thing)

    def test_same_verdict(self):
        self.assertEqual(verdict(led(quotient([], {0: [1]}), quotient([1], {0: [0, Fraction(-1, 4)]}))), "quotient")
        self.assertEqual(verdict(led(quotient([], {0: [1]}), quotient([1], {0: [0, Fraction(-1, 9)]}))), "nothing")


if __name__ == "__main__":
    unittest.main()
