"""9.2: the letter changed, in equations, forms and answers."""

import random
import unittest
from fractions import Fraction

import makers
import oracle
import second
import wrong
from equations import ONE, ZERO, bessel, led_by, linear, number, power, quotient, root, scaled, square_equation
from equations import three_points, weber
from same import SameCase, is_exact, kept
from test_answers import ALWAYS, DOUBLED, ENDLESS, ONCE, TWICE
from test_pairs import ROOTED, multiplied, written_otherwise
from test_slope_equations import FORMS
from test_verdicts import KNOWN
from twiceslope.changes import changed, changed_answer, changed_form
from twiceslope.errors import BadAnswer, BadChange, BadDegree, BadEquation, BadForm
from twiceslope.forms import bounds, is_form, judge_forms
from twiceslope.quotients import is_equation, plus, product, slope
from twiceslope.slopes import answers, are_alike, is_answer, many_answers
from twiceslope.verdict import verdict

HALF, THIRD = Fraction(1, 2), Fraction(1, 3)
SURD = ((-6, 1, 2), (1, -3, 1))
X = quotient([0, 1])
ROOT = quotient([], {0: [1, Fraction(-3, 16)]})
SAME = (1, 0, 0, 1)
CHANGES = (
    SAME, (2, 0, 0, 1), (1, 3, 0, 1), (-1, 0, 0, 1), (3, -2, 0, -2), (1, 1, 0, -3), (0, 1, 1, 0), (0, -2, 3, 0),
    (0, 1, 1, 1),
    (1, 0, 1, 1), (1, 0, -1, 1), (2, 1, 1, 1), (3, -2, -3, 1), (1, 2, 3, -1), (-3, 3, 2, 1), (1, 0, 2, -3),
    (3, 1, 1, 0),
)
# None to four poles, of orders from 1 to 6; far away all kinds of degrees.
EQUATIONS = (
    ZERO, power(0), power(1), power(6), quotient([1, -2, 0, Fraction(3, 7)]), power(-1), power(-2), power(-3),
    power(-6),
    bessel(THIRD), weber(2), three_points(HALF, THIRD, Fraction(1, 7)), quotient([], {1: [1, 0, 0, 2], -1: [-1]}),
    quotient([Fraction(2, 9), -1], {-3: [1, 2, 3], HALF: [0, 5], 2: [HALF, 0, 0, 0, 0, -1]}),
    quotient([], {-3: [1], Fraction(1, 3): [0, 5], 2: [HALF, 1], Fraction(20, 3): [0, 0, 1, 0, 5]}),
    quotient([0, 5], {-1: [0, 0, 0, 0, 0, 1], 0: [2, 2, 2, 2, 2, 2], 1: [-1, 0, 3], Fraction(-1, 3): [1]}),
)
WRONG = makers.ODD_VALUES + (
    (), (1, 0, 0), (1, 0, 0, 1, 0), (1, 2, 3, 4, 5), [1, 0, 0, 1], (1, 0, 0, 0), (0, 0, 0, 0), (2, 1, 4, 2),
    (3, -3, 1, -1), (0, 1, 0, 1),
    (0, 0, 1, 1), (True, 0, 0, 1), (1, False, 0, 1), (1, 0, False, 1), (1, 0, 0, True), (21, 0, 0, 1), (1, -21, 0, 1),
    (1, 0, 21, 1),
    (1, 0, 0, -21), (10 ** 39, 0, 0, 1), ("1", 0, 0, 1), (1, None, 0, 1), ((1, 0), (0, 1)), ((1,), 0, 0, 1),
    (1, 0, 0, ONE), {1: 0},
    "1001", (SAME,), (1, 0, 0, [1]),
)


def table_product(one, other):
    a, b, c, d = one
    e, f, g, h = other
    return (a * e + b * g, a * f + b * h, c * e + d * g, c * f + d * h)


def determinant(change):
    a, b, c, d = change
    return a * d - b * c


def back(change):
    a, b, c, d = change
    return (d, -b, -c, a)


def moved_points(change, many, before, after):
    """Triples of a Fraction s, the x that belongs to it, and c s + d: no poles among them."""
    a, b, c, d = change
    found = []
    for s in oracle.points(many + 12, oracle.poles(*after) | ({Fraction(-d, c)} if c else set())):
        x = (a * s + b) / (c * s + d)
        if x not in oracle.poles(*before) and len(found) < many:
            found.append((s, x, c * s + d))
    assert len(found) == many
    return found


def rational(worth):
    return oracle.rational(worth.numerator, worth.denominator)


def drawn_change(source, size=3):
    while True:
        change = tuple(source.randint(-size, size) for _ in range(4))
        if determinant(change):
            return change


class EquationTest(SameCase):
    def check(self, r, change):
        told = kept(changed, r, change)
        self.assertTrue(is_equation(told) and is_exact(told))
        for s, x, bottom in moved_points(change, oracle.size(told) + oracle.size(r) + 5, [r], [told]):
            factor = (determinant(change) / bottom ** 2) ** 2
            self.assertEqual(oracle.value(told, s), oracle.multiply(rational(factor), oracle.value(r, x)))
        return told

    def test_told(self):
        self.assertTells(quotient([], {0: [0, 0, 0, 0, 1]}), changed, X, (0, 1, 1, 0))
        self.assertTells(quotient([], {0: [2, Fraction(-3, 16)]}), changed, ROOT, (2, 0, 0, 1))
        self.assertTells(power(-4), changed, power(0), (0, 1, 1, 0))
        self.assertTells(power(-2), changed, power(-2), (0, 1, 1, 0))
        self.assertTells(quotient([4]), changed, power(0), (2, 0, 0, 1))
        self.assertTells(quotient([], {-1: [0, 0, 0, 1]}), changed, power(0), (0, 1, 1, 1))
        # 1 / (x - 1) ** 4 with 1 moved far away: s / (s - 1) at 1 is far away.
        self.assertTells(quotient([1]), changed, quotient([], {1: [0, 0, 0, 1]}), (1, 0, 1, -1))
        # C. Gauss's equation with the three points exchanged.
        r, l, m, n = three_points(HALF, THIRD, Fraction(1, 7)), HALF, THIRD, Fraction(1, 7)
        self.assertTells(three_points(m, l, n), changed, r, (-1, 1, 0, 1))
        self.assertTells(three_points(n, m, l), changed, r, (0, 1, 1, 0))
        self.assertTells(three_points(l, n, m), changed, r, (1, 0, 1, -1))
        self.assertTells(three_points(n, l, m), changed, r, (1, -1, 1, 0))
        self.assertTells(three_points(m, n, l), changed, r, (0, 1, -1, 1))
        for change in CHANGES:
            self.assertTells(ZERO, changed, ZERO, change)

    def test_all(self):
        for r in EQUATIONS:
            for change in CHANGES:
                self.check(r, change)

    def test_drawn(self):
        source = random.Random(87)
        for _ in range(60):
            orders = [source.randint(1, 6) for _ in range(source.randint(0, 4))]
            r = makers.plain_quotient(source, source.randint(-1, 4), orders, size=4)
            self.check(r, drawn_change(source))

    def test_poles_and_far_away(self):
        """Each pole is moved far away in turn, and far away to each of some points."""
        for r in EQUATIONS:
            for (top, bottom), row in r[1]:
                if abs(top) <= 3 and bottom <= 3:
                    for change in ((top, 1, bottom, 0), (top, -1, bottom, 0), (-top, 3, -bottom, 2),
                        (top, 2, bottom, 1)):
                        if determinant(change):
                            told = self.check(r, change)
                            if len(row) > 4:
                                self.assertEqual(len(told[0]), len(row) - 3)
            for top, bottom in ((0, 1), (1, 2), (-3, 1), (2, 3)):
                told = self.check(r, (1, 1, bottom, -top))
                orders = [len(row) for pole, row in told[1] if pole == (top, bottom)]
                self.assertEqual(orders, [len(r[0]) + 3] if r[0] else orders)
                self.assertLess(sum(orders), 12)

    def test_large_integers(self):
        for change in ((20, -19, 17, -20), (-20, 20, 20, 20), (20, 1, 0, 19), (0, 20, -20, 0), (-20, 0, 0, -20)):
            for r in (power(0), bessel(THIRD), EQUATIONS[11]):
                self.check(r, change)

    def test_one_after_another(self):
        source = random.Random(88)
        for r in EQUATIONS:
            for _ in range(8):
                first, then = drawn_change(source), drawn_change(source)
                told = kept(changed, changed(r, first), then)
                self.assertTells(told, changed, r, table_product(first, then))

    def test_back(self):
        for r in EQUATIONS:
            for change in CHANGES:
                self.assertTells(r, changed, changed(r, change), back(change))
            self.assertTells(r, changed, r, SAME)

    def test_common_factor(self):
        for r in EQUATIONS:
            for change in CHANGES:
                told = changed(r, change)
                for factor in (-1, 2, -3, 6):
                    self.assertTells(told, changed, r, tuple(factor * one for one in change))

    def test_errors(self):
        for thing in wrong.EQUATIONS:
            for change in (SAME, None, (1, 1, 1, 1)):
                self.assertBad(BadEquation, thing, changed, thing, change)
                self.assertBad(BadEquation, thing, changed, change=change, r=thing)
        for thing in WRONG:
            for r in (ZERO, bessel(THIRD)):
                self.assertBad(BadChange, thing, changed, r, thing)


class VerdictTest(SameCase):
    def test_same_verdict(self):
        source = random.Random(89)
        found = {}
        for r, name in KNOWN:
            for change in [(0, 1, 1, 0), (1, 0, 1, -1)] + [drawn_change(source) for _ in range(3)]:
                told = changed(r, change)
                rooms = [bounds(told, m) for m in (4, 6, 8, 12)]
                if len(told[1]) <= 3 and all(room is None or room[1] <= 12 for room in rooms):
                    self.assertTells(name, verdict, told)
                    found[name] = found.get(name, 0) + 1
        self.assertEqual(len(found), 7)
        self.assertGreater(min(found.values()), 5)

    def test_same_many(self):
        source = random.Random(90)
        for r in ONCE + TWICE + ALWAYS:
            for change in [(0, 1, 1, 0)] + [drawn_change(source) for _ in range(3)]:
                told = changed(r, change)
                if len(told[1]) <= 4 and all(len(row) <= 6 for _, row in told[1]):
                    self.assertEqual(many_answers(told), many_answers(r))


class FormTest(SameCase):
    def check(self, r, m, u, change):
        told = kept(changed_form, r, m, u, change)
        for s, x, bottom in moved_points(change, oracle.size(told) + oracle.size(u) + m + 1, [u], [told]):
            self.assertEqual(oracle.value(told, s), oracle.multiply(rational(bottom ** m), oracle.value(u, x)))
        self.assertTrue(is_form(changed(r, change), m, told))
        return told

    def test_told(self):
        self.assertTells(quotient([0, 2]), changed_form, ROOT, 4, X, (2, 0, 0, 1))
        self.assertTells(quotient([0, 0, 0, 1]), changed_form, ROOT, 4, X, (0, 1, 1, 0))
        self.assertTells(quotient([0, 0, 1]), changed_form, power(0), 2, quotient([1]), (0, 1, 1, 0))
        self.assertTells(quotient([1]), changed_form, ZERO, 2, quotient([0, 0, 1]), (0, 1, 1, 0))
        self.assertTells(quotient([0, 0, 1]), changed_form, ZERO, 2, quotient([0, 0, 1]), (1, 0, 3, -2))
        self.assertTells(quotient([16]), changed_form, power(0), 4, quotient([1]), (1, 0, 0, -2))
        self.assertTells(quotient([0, 0, 0, 1]), changed_form, ZERO, 6, quotient([0, 0, 0, 1]), (0, 1, 1, 0))

    def test_forms(self):
        source = random.Random(91)
        for r, m, u in FORMS:
            for change in [(0, 1, 1, 0)] + source.sample(CHANGES, 4):
                self.check(r, m, u, change)

    def test_multiplied(self):
        for r, m, u in FORMS[::2]:
            for change in CHANGES[5:12]:
                told = product(changed_form(r, m, u, change), ((SURD,), ()))
                self.assertTells(told, changed_form, r, m, product(u, ((SURD,), ())), change)

    def test_back_and_one_after_another(self):
        source = random.Random(92)
        for r, m, u in FORMS:
            first, then = drawn_change(source), drawn_change(source)
            told = changed_form(r, m, u, first)
            self.assertTells(scaled(u, determinant(first) ** m), changed_form, changed(r, first), m, told, back(first))
            both = table_product(first, then)
            self.assertTells(changed_form(r, m, u, both), changed_form, changed(r, first), m, told, then)
            self.assertTells(u, changed_form, r, m, u, SAME)
            self.assertTells(scaled(u, 3 ** m), changed_form, r, m, u, (-3, 0, 0, -3))

    def test_errors(self):
        for thing in wrong.EQUATIONS:
            for m, u, change in ((4, X, SAME), (None, None, None), (5, [], ())):
                self.assertBad(BadEquation, thing, changed_form, thing, m, u, change)
        for thing in wrong.DEGREES:
            for u, change in ((X, SAME), (None, None), ([], ())):
                self.assertBad(BadDegree, thing, changed_form, ROOT, thing, u, change)
        for thing in makers.ODD_VALUES + (ZERO, quotient([1]), plus(X, quotient([1])), [X], list(X), X + ((),), (X,)):
            for change in (SAME, None, (1, 1, 1, 1)):
                self.assertBad(BadForm, thing, changed_form, ROOT, 4, thing, change)
        for thing in WRONG:
            self.assertBad(BadChange, thing, changed_form, ROOT, 4, X, thing)
            self.assertBad(BadChange, thing, changed_form, change=thing, u=X, m=4, r=ROOT)


class AnswerTest(SameCase):
    def check(self, r, answer, change):
        told = kept(changed_answer, r, answer, change)
        self.assertTrue(second.is_answer(changed(r, change), told))
        self.assertTrue(is_exact(told))
        (t, whole), (u, more) = answer, told
        above, more_above = [
            plus(product(one, (row, ())), slope((row, ()))) for one, row in (answer, told)
        ]
        # The slope over itself of z is c / (c s + d), and that of y at x times (a d - b c) / (c s + d) ** 2.
        many = 2 * oracle.size(u) + 2 * oracle.size(t) + 2 * len(whole) + 2 * len(more)
        for s, x, bottom in moved_points(change, many, [t], [u]):
            first = oracle.multiply(rational(change[2] * bottom), oracle.value((whole, ()), x))
            then = oracle.multiply(rational(Fraction(determinant(change))), oracle.value(above, x))
            right = oracle.multiply(oracle.add(first, then), oracle.value((more, ()), s))
            left = oracle.multiply(oracle.value(more_above, s), oracle.value((whole, ()), x))
            self.assertEqual(oracle.multiply(rational(bottom ** 2), left), right)
        return told

    def like(self, r, told, other):
        self.assertTells(True, are_alike, r, told, other)

    def test_told(self):
        # e ** x becomes s e ** (1 / s); 1 becomes s, and x becomes 1.
        r = power(-4)
        told = kept(changed_answer, power(0), (quotient([1]), (ONE,)), (0, 1, 1, 0))
        self.like(r, told, (quotient([], {0: [1, -1]}), (ONE,)))
        self.like(ZERO, kept(changed_answer, ZERO, (ZERO, (ONE,)), (0, 1, 1, 0)), (ZERO, ((), ONE)))
        self.like(ZERO, kept(changed_answer, ZERO, (ZERO, ((), ONE)), (0, 1, 1, 0)), (ZERO, (ONE,)))
        self.like(ZERO, kept(changed_answer, ZERO, (ZERO, (ONE, ONE)), (2, 1, 1, 3)), (ZERO, (number(4), number(3))))

    def test_all(self):
        source = random.Random(93)
        for r in ONCE + TWICE + ALWAYS + ROOTED:
            for answer in answers(r):
                for change in [(0, 1, 1, 0)] + source.sample(CHANGES, 2):
                    self.check(r, answer, change)

    def test_written_otherwise(self):
        source = random.Random(94)
        for r in (power(0), ZERO, DOUBLED, ENDLESS, TWICE[-1], ROOTED[0], ROOTED[3], weber(HALF)):
            for answer in answers(r):
                for change in source.sample(CHANGES, 4):
                    told = self.check(r, answer, change)
                    for other in (multiplied(answer, SURD), written_otherwise(source, answer)):
                        self.like(changed(r, change), self.check(r, other, change), told)

    def test_zeros_where_far_away_goes(self):
        """The polynomial is zero at a / c, once or more often."""
        for a, c in ((1, 2), (0, 1), (-3, 1), (2, 3)):
            whole = (linear(Fraction(a, c)), ())
            for change in ((a, 1, c, 0), (a, 1, c, 1), (a, -2, c, 3), (-a, 1, -c, 2)):
                if determinant(change):
                    told = self.check(ZERO, (ZERO, whole[0]), change)
                    self.like(ZERO, told, (ZERO, (ONE,)))
                    for many in (1, 2, 5):
                        written = (quotient([1], {Fraction(a, c): [-many]}), (ONE,))
                        for _ in range(many):
                            written = (written[0], product((written[1], ()), whole)[0])
                        other = self.check(power(0), written, change)
                        self.like(changed(power(0), change), other,
                            self.check(power(0), (quotient([1]), (ONE,)), change))

    def test_with_roots(self):
        surd_zero = (ZERO, (SURD, ONE))
        for change in CHANGES:
            self.check(ZERO, surd_zero, change)
            self.check(ZERO, (ZERO, ((), SURD)), change)
            self.check(quotient([2]), (((((2, -1, 1),),), ()), (SURD,)), change)
        for r in ROOTED:
            for answer in answers(r):
                self.check(r, answer, (3, 1, 1, 0))
                self.check(r, answer, (1, 0, 2, 1))

    def test_back(self):
        source = random.Random(95)
        for r in ONCE + TWICE + ALWAYS:
            change = drawn_change(source)
            for answer in answers(r):
                told = kept(changed_answer, r, answer, change)
                self.like(r, changed_answer(changed(r, change), told, back(change)), answer)
                then = drawn_change(source)
                both = table_product(change, then)
                twice = changed_answer(changed(r, change), told, then)
                self.like(changed(r, both), twice, changed_answer(r, answer, both))

    def test_errors(self):
        right = (quotient([1]), (ONE,))
        for thing in wrong.EQUATIONS:
            for answer, change in ((right, SAME), (None, None), ((ZERO, (ONE,)), (1, 1, 1, 1))):
                self.assertBad(BadEquation, thing, changed_answer, thing, answer, change)
        for thing in makers.ODD_VALUES + (
            (ZERO, (ONE,)), (quotient([1]), ()), (quotient([1]), (ONE, ONE)), [quotient([1]), (ONE,)],
            (quotient([1]), [ONE]),
            (quotient([1]), (ONE,), 1), (quotient([1]),), (ONE, quotient([1])),
        ):
            for change in (SAME, None, (1, 1, 1, 1)):
                self.assertBad(BadAnswer, thing, changed_answer, power(0), thing, change)
        for thing in WRONG:
            self.assertBad(BadChange, thing, changed_answer, power(0), right, thing)
            self.assertBad(BadChange, thing, changed_answer, change=thing, answer=right, r=power(0))


class LimitsTest(SameCase):
    def test_four_poles_of_order_six(self):
        tails = {c: [HALF, 0, Fraction(c)] for c in (-1, 1, Fraction(1, 3), Fraction(3, 2))}
        w = quotient([Fraction(1, 7), 0, 1, 5], tails)
        r = led_by(w)
        self.assertEqual([len(row) for _, row in r[1]], [6, 6, 6, 6])
        self.assertEqual(len(r[0]), 7)
        for change in ((1, -3, 1, 3), (3, 1, 2, 1), (-3, 2, 0, 3)):
            EquationTest.check(self, r, change)
            told = kept(changed_answer, r, (w, (SURD,)), change)
            self.assertTells(True, is_answer, changed(r, change), told)
            self.assertTells(r, changed, changed(r, change), back(change))

    def test_long_polynomials(self):
        r = bessel(Fraction(25, 2))
        for answer in answers(r):
            for change in ((3, -2, -3, 1), (0, 1, 1, 0)):
                told = kept(changed_answer, r, answer, change)
                self.assertTells(True, is_answer, changed(r, change), told)

    def test_long_forms(self):
        r = square_equation({Fraction(-1, 3): 5, 1: 1, Fraction(3, 2): -6}, Fraction(997, 3))
        u = judge_forms(r, 4)[1][0]
        for m, form in ((4, u), (8, product(u, u)), (12, product(u, product(u, u)))):
            for change in ((3, -2, -3, 1), (1, 1, -1, 3), (3, 1, 2, 0)):
                told = kept(changed_form, r, m, form, change)
                self.assertTells(True, is_form, changed(r, change), m, told)
        u = quotient([1])
        for _ in range(12):
            u = product(u, ((SURD, ONE), ()))
        told = kept(changed_form, ZERO, 12, u, (3, -2, -3, 1))
        self.assertTells(True, is_form, ZERO, 12, told)


if __name__ == "__main__":
    unittest.main()
