"""4.3: answers, how many there are, and which are alike."""

import random
import unittest
from fractions import Fraction

import makers
import second
import wrong
from equations import ONE, TWO, ZERO, bessel, led_by, linear, number, power, quotient, root, square_equation
from equations import three_points, three_points_verdict, weber, whittaker
from same import SameCase, kept
from twiceslope.errors import BadAnswer, BadEquation
from twiceslope.numbers import taken
from twiceslope.quotients import plus, product
from twiceslope.slopes import answers, are_alike, is_answer, lines, many_answers

HALF = Fraction(1, 2)
# y = x * x * e ** x: the line with -1 at 0 has the polynomial x ** 3.
DOUBLED = led_by(quotient([1], {0: [2]}))
# An answer with the polynomial Q below the line has 1 / (y y) = Q Q, whose integral is a polynomial.
ENDLESS = led_by(quotient([], {-2: [-1], Fraction(1, 3): [-1]}))
NONE = (
    power(1), power(2), power(-1), power(3), power(-3), power(-5), bessel(Fraction(1, 3)), bessel(0), weber(1), weber(0),
    whittaker(Fraction(1, 3), Fraction(1, 5)), three_points(HALF, Fraction(1, 3), Fraction(1, 3)),
    three_points(HALF, HALF, HALF), square_equation({0: 1}, 2), power(6),
    quotient([1], {0: [0, 0, 2], 1: [0, 2]}),
)
ONCE = (
    weber(HALF), weber(-HALF), weber(Fraction(25, 2)), weber(Fraction(-25, 2)), quotient([], {0: [0, Fraction(-1, 4)]}),
    led_by(quotient([0, 2], {1: [HALF]})), whittaker(1, HALF), DOUBLED, led_by(quotient([0, 2], {0: [2, 0, 1]})),
)
TWICE = (
    power(0), power(-2), power(-4), quotient([-3]), quotient([], {0: [0, Fraction(-2, 9)]}), bessel(HALF),
    bessel(Fraction(13, 2)), square_equation({0: 2}, Fraction(3, 2)), square_equation({0: 2, 1: -2, Fraction(-1, 2): 2}, -5),
    quotient([2], {0: [0, 6]}),
)
ALWAYS = (
    ZERO, quotient([], {0: [0, 2]}), quotient([], {Fraction(-1, 3): [0, 6]}), quotient([], {5: [0, 30]}), ENDLESS,
    led_by(quotient([], {0: [-2], 1: [-1], 2: [-1]})), led_by(quotient([], {0: [-1], 1: [-1], 2: [-1], -3: [-1]})),
)
KINDS = (("none", NONE), ("one", ONCE), ("two", TWICE), ("endless", ALWAYS))


def spoilt(answer):
    """The answers in which just one number is another one: at each place in turn."""
    (whole, tails), told = answer
    for k in range(len(whole)):
        yield ((whole[:k] + (taken(whole[k], number(-7)),) + whole[k + 1:], tails), told)
    for at, (c, row) in enumerate(tails):
        for k in range(len(row)):
            changed = row[:k] + (taken(row[k], number(-7)),) + row[k + 1:]
            yield ((whole, tails[:at] + ((c, changed),) + tails[at + 1:]), told)
    for k in range(len(told) - 1):
        yield ((whole, tails), told[:k] + (taken(told[k], number(-7)),) + told[k + 1:])
    if len(told) > 1:
        yield ((whole, tails), told[:-1] + (taken(told[-1], number(-7)),))


class IsAnswerTest(SameCase):
    def test_known(self):
        for t, whole, r in (
            (quotient([1]), ONE, power(0)), (quotient([-1]), ((1, 5, 1),), power(0)), (ZERO, number(3), ZERO),
            (quotient([], {0: [1]}), ONE, ZERO), (quotient([], {0: [2]}), ONE, quotient([], {0: [0, 2]})),
        ):
            self.assertTells(True, is_answer, r, (t, (whole,)))
        self.assertTells(True, is_answer, ZERO, (ZERO, ((), ONE)))
        self.assertTells(True, is_answer, ZERO, (quotient([], {5: [-2]}), ((), number(25), number(-10), ONE)))
        self.assertTells(False, is_answer, ZERO, (ZERO, ((), (), ONE)))
        self.assertTells(False, is_answer, power(0), (ZERO, (ONE,)))

    def test_zero_is_none(self):
        for r in (ZERO, power(0), weber(HALF)):
            self.assertTells(False, is_answer, r, (ZERO, ()))
            self.assertTells(False, is_answer, r, (quotient([1]), ()))
            for k in range(-3, 4):
                self.assertTells(False, is_answer, r, (root(0, k) if k else ZERO, ()))

    def test_roots(self):
        imaginary = (((), ((-1, 1, 2),)), ())
        self.assertTells(True, is_answer, quotient([Fraction(-1, 4)]), (((((-1, 1, 2),),), ()), (ONE,)))
        self.assertTells(False, is_answer, quotient([Fraction(-1, 4)]), (imaginary, (ONE,)))
        both = ((((2, 1, 1),),), ())
        self.assertTells(True, is_answer, quotient([2]), (both, (((2, 3, 1), (3, 1, 1)),)))
        self.assertTells(False, is_answer, quotient([3]), (both, (((2, 3, 1), (3, 1, 1)),)))
        # (x - root of 2) and (x + root of 2) times any number are answers of zero, like all x + number.
        self.assertTells(True, is_answer, ZERO, (ZERO, (((2, -1, 1),), ONE)))
        golden = ((), (((0, 1), (((1, 1, 2), (5, 1, 2)),)),))
        self.assertTells(True, is_answer, power(-2), (golden, (((7, 1, 1),),)))
        self.assertTells(False, is_answer, power(-2), (golden, (((7, 1, 1),), ONE)))

    def test_pole_as_zero(self):
        self.assertTells(True, is_answer, DOUBLED, (quotient([1], {0: [2]}), (ONE,)))
        self.assertTells(True, is_answer, DOUBLED, (quotient([1], {0: [-1]}), ((), (), (), ONE)))
        self.assertTells(False, is_answer, DOUBLED, (quotient([1], {0: [-1]}), ((), (), ONE, ONE)))

    def test_other_poles(self):
        # y = x * x - 1, with its zeros in t, in P, or in both.
        r = led_by(quotient([], {1: [1], -1: [1]}))
        square = (number(-1), (), ONE)
        for t, whole in (
            (ZERO, square), (root(1), (ONE, ONE)), (plus(root(1), root(-1)), (ONE,)),
            (root(3, -1), product((square, ()), (linear(3), ()))[0]),
        ):
            self.assertTells(True, is_answer, r, (t, whole))
            self.assertTells(False, is_answer, r, (plus(t, root(3, 1)), whole))

    def test_wrong_in_one_number(self):
        count = 0
        for kind, equations in KINDS[1:3]:
            for r in equations:
                for answer in kept(answers, r):
                    self.assertTells(True, is_answer, r, answer)
                    for changed in spoilt(answer):
                        self.assertSame(is_answer(r, changed), False)
                        count += 1
        self.assertGreater(count, 60)

    def test_drawn(self):
        source = random.Random(44)
        for _ in range(60):
            degree, orders = source.randint(-1, 2), [source.randint(1, 3) for _ in range(source.randint(0, 3))]
            t = makers.plain_quotient(source, degree, orders, 1)
            r = led_by(t)
            self.assertTells(True, is_answer, r, (t, (makers.number(source, 3, 2),)))
            c = source.randint(-5, 5)
            self.assertTells(True, is_answer, r, (plus(t, root(c, -2)), (number(c * c), number(-2 * c), ONE)))
            self.assertTells(False, is_answer, r, (plus(t, root(c, -2)), (number(c * c + 1), number(-2 * c), ONE)))

    def test_long_values(self):
        numbers = (((1, 10 ** 39, 10 ** 39 - 1),),) * 500
        for r in (ZERO, power(0), weber(HALF), DOUBLED):
            for t, whole in (
                ((numbers, ()), (ONE,)), (((), (((0, 1), numbers),)), (ONE,)), (ZERO, numbers),
                (((), tuple(((k, 7), (ONE,)) for k in range(1, 500) if k % 7)), (ONE,)),
            ):
                self.assertTells(False, is_answer, r, (t, whole))

    def test_any_value(self):
        for r in (ZERO, power(0), weber(HALF), DOUBLED):
            for thing in makers.ODD_VALUES + ((), (ZERO,), (ZERO, (ONE,), 1), [ZERO, (ONE,)], (ZERO, [ONE]), (ZERO, ONE)):
                self.assertTells(False, is_answer, r, thing)
            told = answers(r)[0]
            self.assertTells(False, is_answer, r, list(told))
            self.assertTells(False, is_answer, r, told + ((),))
            self.assertTells(False, is_answer, r, (told[0], told[1] + ((),)))

    def test_spoiled(self):
        source = random.Random(45)
        right = 0
        for r in (ZERO, power(0), power(-2), weber(Fraction(5, 2)), DOUBLED, ENDLESS, bessel(Fraction(5, 2))):
            for answer in answers(r):
                for _ in range(80):
                    thing = makers.spoiled(source, answer)
                    told = kept(is_answer, r, thing)
                    self.assertSame(told, second.is_answer(r, thing))
                    right += told
        self.assertGreater(right, 20)


class ManyTest(SameCase):
    def test_many(self):
        for kind, equations in KINDS:
            for r in equations:
                self.assertTells(kind, many_answers, r)

    def test_answers(self):
        for kind, equations in KINDS:
            for r in equations:
                told = kept(answers, r)
                self.assertEqual(len(told), {"none": 0, "one": 1, "two": 2, "endless": 2}[kind])
                for answer in told:
                    self.assertTrue(second.is_answer(r, answer))
                if kind in ("one", "two"):
                    self.check_plain(r, told)
                if len(told) == 2:
                    self.assertTells(False, are_alike, r, told[0], told[1])

    def check_plain(self, r, told):
        """Each one is monic, of the degree of its line, has no pole as a zero; and they stand in the lines' order."""
        at = -1
        for t, whole in told:
            self.assertEqual(whole[-1], ONE)
            at = lines(r).index((t, len(whole) - 1), at + 1)
            for c, _ in r[1]:
                self.assertTrue(second.oracle.value((whole, ()), Fraction(c[0], c[1])))

    def test_told(self):
        self.assertTells(((quotient([1]), (ONE,)), (quotient([-1]), (ONE,))), answers, power(0))
        self.assertTells(((quotient([1], {0: [2]}), (ONE,)),), answers, DOUBLED)
        self.assertTells(((quotient([0, -HALF]), (number(-1), (), ONE)),), answers, weber(Fraction(-5, 2)))
        self.assertTells((), answers, power(1))
        # Bessel's with 3/2: e ** (i x) * (x + i) / x, and the other root of -1.
        first = ((((-1, 1, 1),),), (((0, 1), (number(-1),)),))
        then = ((((-1, -1, 1),),), (((0, 1), (number(-1),)),))
        told = ((first, (((-1, 1, 1),), ONE)), (then, (((-1, -1, 1),), ONE)))
        self.assertTells(told, answers, bessel(Fraction(3, 2)))

    def test_three_points(self):
        source = random.Random(46)
        found = 0
        for _ in range(60):
            l, m = (Fraction(source.randint(1, 7), source.randint(1, 4)) for _ in range(2))
            n = source.choice((2 * source.randint(0, 2) + 1 - l - m, l + m - 2 * source.randint(0, 2) - 1))
            r = three_points(l, m, n)
            self.assertEqual(three_points_verdict(l, m, n), "quotient")
            if abs(n) < 9:
                self.assertNotEqual(kept(many_answers, r), "none")
                self.assertTrue(all(second.is_answer(r, answer) for answer in answers(r)))
                found += 1
        self.assertGreater(found, 30)


    def test_zeros_that_are_no_fractions(self):
        # With t = a x + b + (a n - 1/2) / x + b n / x ** 2 the polynomial x * x + n divides P'' + 2 t P'.
        source = random.Random(50)
        for _ in range(40):
            a, b = (Fraction(source.choice((-3, -2, -1, 1, 2, 3)), source.randint(1, 3)) for _ in range(2))
            n = source.choice((-7, -5, -3, -2, 2, 3, 5, Fraction(1, 2), Fraction(-2, 3)))
            t = quotient([b, a], {0: [a * n - HALF, b * n]})
            r = plus(led_by(t), quotient([4 * a], {0: [4 * b]}))
            answer = (t, (number(n), (), ONE))
            self.assertTells(True, is_answer, r, answer)
            self.assertTells(False, is_answer, r, (t, (number(n + 1), (), ONE)))
            self.assertIn(answer, kept(answers, r))

    def test_roots_of_integers(self):
        for d in (2, -1, 6, -3):
            told = tuple((((((d, sign, 1),),), ()), (ONE,)) for sign in (1, -1))
            self.assertTells(told, answers, quotient([d]))
            told = tuple((((), (((0, 1), (ONE, ((d, sign, 1),))),)), (ONE,)) for sign in (1, -1))
            self.assertTells(told, answers, quotient([], {0: [0, 0, 0, d]}))
            # e ** (s x) * (x - 1 / s) / x, s being a root of d.
            trunk = ((((d, 1, 1),),), (((0, 1), (number(-1),)),))
            self.assertSame(kept(answers, quotient([d], {0: [0, 2]}))[0], (trunk, (root_of_over(d), ONE)))


def root_of_over(d):
    """The negative of 1 over the root of d."""
    worth = Fraction(-1, d)
    return ((d, worth.numerator, worth.denominator),)


class AlikeTest(SameCase):
    def test_written_otherwise(self):
        one = (quotient([1], {0: [2]}), (ONE,))
        other = (quotient([1], {0: [-1]}), ((), (), (), TWO))
        third = (quotient([1], {0: [1]}), ((), number(-5)))
        for first, then in ((one, other), (other, third), (third, one), (one, one)):
            self.assertTells(True, are_alike, DOUBLED, first, then)
            self.assertTells(True, are_alike, DOUBLED, then, first)

    def test_unlike(self):
        one, other = (quotient([1]), (ONE,)), (quotient([-1]), (ONE,))
        self.assertTells(False, are_alike, power(0), one, other)
        self.assertTells(True, are_alike, power(0), one, (quotient([1]), (((1, 1, 1), (3, 1, 2)),)))
        self.assertTells(False, are_alike, ZERO, (ZERO, (ONE,)), (ZERO, ((), ONE)))
        self.assertTells(True, are_alike, ZERO, (root(0), (ONE,)), (ZERO, ((), ONE)))
        self.assertTells(False, are_alike, ZERO, (root(0), (ONE,)), (ZERO, (ONE, ONE)))
        self.assertTells(True, are_alike, ZERO, (root(-1), (ONE,)), (ZERO, (ONE, ONE)))
        self.assertTells(True, are_alike, ZERO, (ZERO, (((2, 1, 1),), ((6, 1, 1),))), (ZERO, (ONE, ((3, 1, 1),))))
        self.assertTells(False, are_alike, ZERO, (ZERO, (((2, 1, 1),), ((6, 1, 1),))), (ZERO, (ONE, ((3, -1, 1),))))

    def test_no_answers(self):
        right, r = (quotient([1]), (ONE,)), power(0)
        for thing in makers.ODD_VALUES + ((ZERO, (ONE,)), (quotient([1]), ()), (quotient([1]), (ONE, ONE)), [right]):
            self.assertBad(BadAnswer, thing, are_alike, r, thing, right)
            self.assertBad(BadAnswer, thing, are_alike, r, right, thing)
            self.assertBad(BadAnswer, thing, are_alike, r, thing, [thing])
            self.assertBad(BadAnswer, [thing], are_alike, r, other=thing, one=[thing])

    def test_no_equation(self):
        right = (quotient([1]), (ONE,))
        for thing in wrong.EQUATIONS:
            for call in (many_answers, answers):
                self.assertBad(BadEquation, thing, call, thing)
            self.assertBad(BadEquation, thing, is_answer, thing, right)
            self.assertBad(BadEquation, thing, is_answer, thing, None)
            self.assertBad(BadEquation, thing, are_alike, thing, right, right)
            self.assertBad(BadEquation, thing, are_alike, thing, None, [])


if __name__ == "__main__":
    unittest.main()
