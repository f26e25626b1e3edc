"""6.1 and 6.2: verdicts and their certificates."""

import random
import unittest
from fractions import Fraction

import makers
import second
import wrong
from equations import FACES, ZERO, bessel, led_by, moved, power, quotient, scaled, square_equation
from equations import three_points, three_points_verdict, weber, whittaker, whittaker_verdict
from same import SameCase, kept
from test_answers import KINDS
from twiceslope.errors import BadEquation
from twiceslope.forms import bounds, forms_hold, judge_forms, many_forms, row_of_products
from twiceslope.quotients import plus, product
from twiceslope.slopes import judge_slopes, many_answers
from twiceslope.verdict import exchanges, has_answers, judge_verdict, verdict, verdict_holds

HALF, THIRD = Fraction(1, 2), Fraction(1, 3)
X = quotient([0, 1])
MEMBERS = {"eight": 8, "four faces": 24, "eight faces": 48, "twenty faces": 120}
DEGREES = {
    "quotient": (), "square": (4,), "eight": (4,), "four faces": (4, 6), "eight faces": (4, 6, 8),
    "twenty faces": (4, 6, 8, 12), "nothing": (4, 6, 8, 12),
}
ROOT = quotient([], {0: [1, Fraction(-3, 16)]})
KNOWN = (
    (ROOT, "square"), (three_points(HALF, HALF, Fraction(1, 7)), "square"), (square_equation({0: 1, 1: -2}, 2), "square"),
    (square_equation({0: 2, Fraction(1, 2): 1}, -7), "square"), (square_equation({-1: -3, 2: 1}, 5), "square"),
    (three_points(HALF, HALF, HALF), "eight"), (three_points(HALF, -HALF, 3 * HALF), "eight"),
    (three_points(HALF, THIRD, THIRD), "four faces"), (three_points(THIRD, Fraction(2, 3), THIRD), "four faces"),
    (three_points(HALF, THIRD, Fraction(1, 4)), "eight faces"),
    (three_points(Fraction(1, 4), Fraction(2, 3), Fraction(-1, 4)), "eight faces"),
    (three_points(HALF, THIRD, Fraction(1, 5)), "twenty faces"),
    (three_points(Fraction(2, 5), Fraction(2, 5), Fraction(2, 5)), "twenty faces"),
    (power(1), "nothing"), (power(-1), "nothing"), (power(2), "nothing"), (power(-3), "nothing"), (power(6), "nothing"),
    (bessel(THIRD), "nothing"), (weber(1), "nothing"), (whittaker(2, THIRD), "nothing"), (whittaker(2, 2), "nothing"),
    (three_points(HALF, THIRD, Fraction(1, 7)), "nothing"), (three_points(THIRD, THIRD, Fraction(1, 7)), "nothing"),
    (quotient([1], {0: [2, 2], 1: [-4, 6]}), "nothing"), (quotient([1], {0: [1]}), "nothing"),
    (ZERO, "quotient"), (power(0), "quotient"), (power(-2), "quotient"), (power(-4), "quotient"),
    (weber(HALF), "quotient"), (bessel(3 * HALF), "quotient"), (three_points(THIRD, THIRD, THIRD), "quotient"),
)
BY_NAME = {name: [r for r, told in KNOWN if told == name] for name in DEGREES}


def told_right(r, thing):
    """Whether a value is a certificate of [6.2], by the definitions of the parts."""
    if type(thing) is not tuple or len(thing) < 2 or type(thing[0]) is not str or thing[0] not in DEGREES:
        return False
    degrees = DEGREES[thing[0]]
    if len(thing) != 2 + len(degrees) or not second.slopes_right(r, thing[1]):
        return False
    if (thing[1][0] == "answer") != (thing[0] == "quotient"):
        return False
    for m, part in zip(degrees, thing[2:]):
        if not second.forms_right(r, m, part):
            return False
        if (part[0] == "forms") != (m == degrees[-1] and thing[0] != "nothing"):
            return False
    return thing[0] not in ("square", "eight") or len(thing[2][1]) == {"square": 1, "eight": 2}[thing[0]]


class VerdictTest(SameCase):
    def check(self, r, name):
        self.assertTells(name, verdict, r)
        told = kept(judge_verdict, r)
        self.assertEqual(told[0], name)
        self.assertTells(True, verdict_holds, r, told)
        self.assertTells(name != "nothing", has_answers, r)
        self.assertTells(MEMBERS.get(name), exchanges, r)
        return told

    def test_known(self):
        for r, name in KNOWN:
            self.assertTrue(told_right(r, self.check(r, name)), (r, name))

    def test_quotients(self):
        for kind, equations in KINDS:
            for r in equations:
                self.assertEqual(kept(verdict, r) == "quotient", kind != "none")

    def test_powers(self):
        for n in range(-6, 7):
            self.check(power(n), "quotient" if n in (0, -2, -4) else "nothing")

    def test_bessel_and_weber(self):
        for top in range(-13, 14):
            for bottom in (1, 2, 3, 5):
                n = Fraction(top, bottom)
                if abs(n) < 5:
                    name = "quotient" if n.denominator == 2 else "nothing"
                    self.check(bessel(n), name)
                    self.check(weber(n), name)

    def test_whittaker(self):
        source = random.Random(61)
        found = {}
        for _ in range(60):
            k, m = (Fraction(source.randint(-12, 12), source.randint(1, 4)) for _ in range(2))
            k = source.choice((k, m + HALF + source.randint(-3, 3)))
            if abs(m) <= 2:
                name = whittaker_verdict(k, m)
                found[name] = found.get(name, 0) + 1
                self.check(whittaker(k, m), name)
        self.assertGreater(min(found.get(name, 0) for name in ("quotient", "nothing")), 8)

    def test_three_points(self):
        source = random.Random(62)
        found = {}
        told = [row for name in FACES for row in FACES[name]] + ["1/2 1/2 1/7", "1/2 1/2 1/2", "1/3 1/3 1/3", "1/2 1/3 1/7"]
        for row in told * 3:
            worths = [Fraction(word) for word in row.split()]
            worths = [source.choice((1, -1)) * (worth + source.choice((0, 0, 0, 1, -1))) for worth in worths]
            source.shuffle(worths)
            r = three_points(*worths)
            if all((bounds(r, m) or (0, 0))[1] <= 12 for m in (4, 6, 8, 12)):
                name = three_points_verdict(*worths)
                found[name] = found.get(name, 0) + 1
                self.check(r, name)
        self.assertEqual(set(found), set(DEGREES))

    def test_squares(self):
        source = random.Random(63)
        for _ in range(25):
            exponents = {c: source.choice((-2, -1, 1, 2, 3)) for c in source.sample(range(-3, 4), source.randint(1, 3))}
            r = square_equation(exponents, Fraction(source.choice((-3, 2, 5)), source.randint(1, 4)))
            if all((bounds(r, m) or (0, 0))[1] <= 12 for m in (4, 6, 8, 12)):
                name = "square" if any(worth % 2 for worth in exponents.values()) else "quotient"
                if sum(exponents.values()) != 2 or len(exponents) > 1:
                    self.check(r, name)

    def test_moved(self):
        for r, name in KNOWN:
            for step in (1, -2, 5):
                self.check(moved(r, step), name)

    def test_no_equation(self):
        for thing in wrong.EQUATIONS:
            for call in (verdict, judge_verdict, has_answers, exchanges):
                self.assertBad(BadEquation, thing, call, thing)
            self.assertBad(BadEquation, thing, verdict_holds, thing, ("quotient", ("answer", ZERO, (((1, 1, 1),),))))
            self.assertBad(BadEquation, thing, verdict_holds, thing, None)


class BothHalvesTest(SameCase):
    """Answers and forms are found in two ways: so each tells something of what the other one may tell."""

    def check(self, r):
        many = many_answers(r)
        # The product of two answers is a 2-form; where their quotient is one, too, so are their squares.
        found = bounds(r, 2)
        if found is None or found[1] <= 20:
            self.assertIn(many_forms(r, 2), {"none": (0,), "one": (0, 1), "two": (1,), "endless": (3,)}[many], r)
        if all((bounds(r, m) or (0, 0))[1] <= 12 for m in (4, 6, 8, 12)):
            told = judge_verdict(r)
            self.assertIs(verdict_holds(r, told), True, r)
            self.assertEqual(told[0] == "quotient", many != "none", r)
        for m in (2, 4, 6):
            found = bounds(r, m)
            if found is None or found[1] <= 12:
                told = judge_forms(r, m)
                self.assertIs(forms_hold(r, m, told), True, (r, m))
                # The row of products is told by sums and products of quotients: not by what forms are found by.
                for form in told[1] if told[0] == "forms" else ():
                    self.assertEqual(row_of_products(r, m, form)[-1], ZERO)
        return many

    def test_drawn(self):
        source = random.Random(66)
        found = {}
        for _ in range(250):
            poles = source.sample(sorted({Fraction(a, b) for a in range(-4, 5) for b in (1, 2, 3)}), source.randint(0, 3))
            whole = [source.randint(-2, 2) for _ in range(source.randint(0, 3))]
            tails = {c: [Fraction(source.randint(-4, 4), source.choice((1, 1, 2, 3, 4)))] +
                     [source.randint(-2, 2) for _ in range(source.choice((0, 0, 1, 2)))] for c in poles}
            heads = (2, 6, 12, Fraction(3, 4), Fraction(-3, 16), Fraction(-2, 9), Fraction(5, 16), 1, 4)
            other = {c: tails[c][:source.choice((0, 1, 1, 1, 3))] + [source.choice(heads)] for c in poles}
            exponents = {c: source.choice((-2, -1, 1, 2, 3, 4)) for c in poles}
            for r in (led_by(quotient(whole, tails)), quotient(whole, other), square_equation(exponents, Fraction(3, 4))):
                many = self.check(r)
                found[many] = found.get(many, 0) + 1
        self.assertGreater(min(found[kind] for kind in ("none", "one", "two", "endless")), 20)


class OthersTest(SameCase):
    """Certificates that somebody else made."""

    def test_other_forms(self):
        for name in ("square", "eight", "four faces", "eight faces", "twenty faces"):
            for r in BY_NAME[name]:
                told = judge_verdict(r)
                kind, forms, places = told[-1]
                more = tuple(scaled(form, Fraction(-3, 7)) for form in forms)
                self.assertTells(True, verdict_holds, r, told[:-1] + ((kind, more, places),))
                more = (plus(forms[0], forms[-1]),) + forms[1:]
                self.assertTells(True, verdict_holds, r, told[:-1] + ((kind, more, places),))
        self.assertTells(True, verdict_holds, ROOT, ("square", ("odd", "far"), ("forms", (X,), ())))

    def test_other_answers(self):
        one = ((1, 1, 1),)
        for whole in (one, ((1, -4, 3),), ((-1, 1, 1), (2, 1, 1))):
            for sign in (1, -1):
                self.assertTells(True, verdict_holds, power(0), ("quotient", ("answer", quotient([sign]), (whole,))))
        self.assertTells(True, verdict_holds, ZERO, ("quotient", ("answer", ZERO, ((), one))))

    def test_other_points(self):
        r = quotient([0, 1], {0: [0, 0, 1], 1: [0, 0, 0, 0, 1]})
        told = judge_verdict(r)
        self.assertEqual(told[0], "nothing")
        for point in ((0, 1), (1, 1), "far"):
            self.assertTells(True, verdict_holds, r, told[:1] + (("odd", point),) + told[2:])
            for at, m in ((2, 4), (3, 6), (4, 8), (5, 12)):
                thing = told[:at] + (("point", point),) + told[at + 1:]
                self.assertSame(kept(verdict_holds, r, thing), told_right(r, thing))
        self.assertTells(False, verdict_holds, r, told[:1] + (("odd", (2, 1)),) + told[2:])

    def test_other_weights(self):
        r = quotient([1], {0: [2, 2], 1: [-4, 6]})
        told = judge_verdict(r)
        at = [k for k, row in enumerate(told[1][1]) if row != "shut"][0]
        rows = told[1][1]
        for worth, right in ((rows[at] + ((), ()), True), (((),) + rows[at], None), (rows[at][:-1], None)):
            thing = told[:1] + (("table", rows[:at] + (worth,) + rows[at + 1:]),) + told[2:]
            self.assertSame(verdict_holds(r, thing), told_right(r, thing))
            self.assertIn(verdict_holds(r, thing), (True, False) if right is None else (True,))


class WrongTest(SameCase):
    def bad(self, r, thing):
        self.assertTells(False, verdict_holds, r, thing)

    def test_another_verdict(self):
        for r, name in KNOWN:
            told = judge_verdict(r)
            for other in DEGREES:
                if other != name:
                    self.bad(r, (other,) + told[1:])
                    self.bad(r, (other,) + told[1:2 + len(DEGREES[other])])

    def test_more_than_is_asked(self):
        # All certificates of the degrees are right, but the verdict is another one.
        for name in ("square", "eight", "four faces", "eight faces"):
            for r in BY_NAME[name][:2]:
                barred = judge_slopes(r)
                parts = tuple(judge_forms(r, m) for m in (4, 6, 8, 12))
                for other, many in (("four faces", 2), ("eight faces", 3), ("twenty faces", 4), ("nothing", 4)):
                    if other != name:
                        self.bad(r, (other, barred) + parts[:many])
                self.bad(r, (name, barred) + parts)

    def test_no_answer_as_a_bar(self):
        for r in BY_NAME["quotient"]:
            answer = judge_slopes(r)
            parts = tuple(judge_forms(r, m) for m in (4, 6, 8, 12) if (bounds(r, m) or (0, 0))[1] <= 12)
            for other in DEGREES:
                if other != "quotient":
                    self.bad(r, (other, answer) + parts[:len(DEGREES[other])])
        for r in BY_NAME["nothing"] + BY_NAME["square"]:
            self.bad(r, ("quotient", judge_slopes(r)))
            self.bad(r, ("quotient", ("answer", ZERO, (((1, 1, 1),),))))

    def test_parts(self):
        for r, name in KNOWN:
            told = judge_verdict(r)
            self.bad(r, told[:-1])
            self.bad(r, told + told[-1:])
            self.bad(r, list(told))
            for at in range(1, len(told)):
                self.bad(r, told[:at] + told[at + 1:])
                for other in (list(told[at]), None, True, (), told[at] + (0,), told[at][:-1], "odd", ("odd", None), told[0]):
                    self.bad(r, told[:at] + (other,) + told[at + 1:])
                for k in range(1, len(told)):
                    if told[k] != told[at]:
                        thing = told[:at] + (told[k],) + told[at + 1:]
                        self.assertSame(verdict_holds(r, thing), told_right(r, thing))

    def test_part_of_another_degree(self):
        for r in BY_NAME["nothing"]:
            told = judge_verdict(r)
            for at, m in ((2, 4), (3, 6), (4, 8), (5, 12)):
                for n in (2, 4, 6, 8, 10, 12):
                    found = bounds(r, n)
                    if found is None or found[1] <= 12:
                        thing = told[:at] + (judge_forms(r, n),) + told[at + 1:]
                        self.assertSame(verdict_holds(r, thing), told_right(r, thing))
        r = three_points(HALF, THIRD, THIRD)
        told = judge_verdict(r)
        self.bad(r, told[:-1] + (judge_forms(r, 8),))
        self.bad(r, told[:-1] + (judge_forms(r, 12),))
        r = ROOT
        self.bad(r, ("square", judge_slopes(r), judge_forms(r, 8)))
        self.bad(r, ("square", judge_slopes(r), ("forms", (product(X, X),), ())))
        r = three_points(HALF, HALF, HALF)
        kind, forms, places = judge_forms(r, 4)
        for more in (forms[:1], forms[1:], forms + forms[:1]):
            self.bad(r, ("eight", judge_slopes(r), (kind, more, places)))
            self.bad(r, ("square", judge_slopes(r), (kind, more, places)))

    def test_any_value(self):
        for r in (ZERO, ROOT, power(1), three_points(HALF, THIRD, THIRD)):
            told = judge_verdict(r)
            for thing in makers.ODD_VALUES + ((), ("quotient",), ("nothing",), "nothing", (told,), (told[0], told[1:])):
                self.bad(r, thing)
                for k in range(len(told)):
                    if thing != told[k]:
                        self.bad(r, told[:k] + (thing,) + told[k + 1:])

    def test_spoiled(self):
        source = random.Random(64)
        for r, name in KNOWN:
            told = judge_verdict(r)
            for _ in range(25):
                thing = makers.spoiled(source, told)
                self.assertSame(kept(verdict_holds, r, thing), told_right(r, thing))


class LimitsTest(SameCase):
    def test_large(self):
        source = random.Random(65)
        drawn = [Fraction(source.randint(1, 1000), source.randint(1, 1000)) for _ in range(30)]
        tails = {Fraction(-19, 20): drawn[:6], Fraction(1, 17): drawn[6:10], Fraction(20, 7): drawn[10:12]}
        for r in (quotient(drawn[12:19], tails), quotient([], tails), quotient(drawn[12:13], tails),
                  quotient([], {Fraction(-19, 20): drawn[:1], Fraction(1, 17): drawn[1:2], Fraction(20, 7): drawn[2:3]})):
            told = judge_verdict(r)
            self.assertEqual(told[0], "nothing")
            self.assertIs(verdict_holds(r, told), True)

    def test_square_with_high_orders(self):
        r = square_equation({Fraction(-19, 20): 5, Fraction(1, 17): 1, Fraction(20, 7): -6}, Fraction(997, 3))
        self.assertEqual([len(row) for _, row in r[1]], [5, 2, 2])
        told = judge_verdict(r)
        self.assertEqual(told[0], "square")
        self.assertIs(verdict_holds(r, told), True)


if __name__ == "__main__":
    unittest.main()
