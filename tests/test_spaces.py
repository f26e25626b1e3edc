"""5.3: certificates of forms, and how many there are."""

import random
import unittest
from fractions import Fraction
from itertools import combinations

import makers
import second
import wrong
from equations import ONE, ZERO, bessel, led_by, number, power, quotient, scaled, square_equation, three_points, total
from equations import whittaker
from same import SameCase, kept
from test_rooms import ROOM
from twiceslope.errors import BadDegree, BadEquation
from twiceslope.forms import bounds, equation, forms_hold, judge_forms, many_forms
from twiceslope.quotients import plus, product

DEGREES = (2, 4, 6, 8, 10, 12)
HALF = Fraction(1, 2)
THIRD = Fraction(1, 3)
ROOT = ((((2, 1, 1),),), ())
# Equations, a degree, and how many forms there are.
MANY = (
    (ZERO, 2, 3), (ZERO, 12, 13), (power(0), 2, 1), (power(0), 12, 1), (power(-2), 2, 1), (power(-2), 4, 1),
    (power(-4), 4, 1), (power(1), 4, 0), (bessel(THIRD), 4, 0), (bessel(Fraction(5, 2)), 2, 1),
    (bessel(Fraction(5, 2)), 4, 1), (quotient([], {0: [1, Fraction(-3, 16)]}), 4, 1),
    (quotient([], {0: [1, Fraction(-3, 16)]}), 2, 0), (quotient([], {0: [1, Fraction(-3, 16)]}), 8, 1),
    (three_points(HALF, HALF, HALF), 4, 2), (three_points(HALF, HALF, Fraction(2, 5)), 4, 1),
    (three_points(HALF, THIRD, THIRD), 4, 0), (three_points(HALF, THIRD, THIRD), 6, 1),
    (three_points(HALF, THIRD, THIRD), 8, 1), (three_points(HALF, THIRD, Fraction(1, 4)), 8, 1),
    (three_points(HALF, THIRD, Fraction(1, 4)), 6, 0), (three_points(HALF, THIRD, Fraction(1, 5)), 12, 1),
    (three_points(HALF, THIRD, Fraction(1, 5)), 8, 0), (square_equation({0: 1, 1: -2}, 2), 4, 1),
    (square_equation({0: 2, 1: -2, -1: 2}, 5), 2, 1), (quotient([], {0: [0, Fraction(-3, 16)]}), 4, 3),
    (quotient([], {0: [0, Fraction(-2, 9)]}), 6, 3), (quotient([], {0: [0, 2]}), 2, 3), (quotient([], {0: [0, 2]}), 4, 5),
    (led_by(quotient([], {0: [-1], 2: [-1]})), 2, 3), (led_by(quotient([0, 2], {0: [2]})), 4, 0),
    (led_by(quotient([], {0: [-2], 1: [-1]})), 2, 3), (led_by(quotient([0, 2], {0: [-2], 1: [-1]})), 2, 0),
    (led_by(quotient([], {0: [1], 1: [HALF]})), 2, 1), (led_by(quotient([], {0: [1], 1: [HALF]})), 4, 1),
    (led_by(quotient([], {0: [1], 1: [HALF], -2: [1]})), 2, 1), (square_equation({2: 2, 0: -1, 1: -1}, 5), 4, 1),
    (whittaker(2, 3), 4, 0), (whittaker(1, HALF), 2, 0), (quotient([], {0: [0, Fraction(-1, 4)]}), 4, 1),
)


def sums(forms, source):
    """As many sums of multiples of forms, of which no sum of multiples is zero."""
    told = []
    for at, form in enumerate(forms):
        told.append(plus(scaled(form, source.choice((-2, 1, 3, Fraction(1, 5)))),
                         total(scaled(one, source.randint(-3, 3)) for one in forms[:at])))
    source.shuffle(told)
    return tuple(told)


def reach(r, m):
    """The length of the longest W_k."""
    return max(len(column) for column in second.columns(r, m))


class JudgeTest(SameCase):
    def test_many(self):
        for r, m, many in MANY:
            told = kept(judge_forms, r, m)
            self.assertTells(many, many_forms, r, m)
            self.assertEqual(told[0] == "forms", many > 0)
            self.assertTrue(second.forms_right(r, m, told), (r, m))
            self.assertTells(True, forms_hold, r, m, told)
            if many:
                self.assertEqual((len(told), len(told[1])), (3, many))
                self.assertEqual(len(told[1]) + len(told[2]), bounds(r, m)[1] + 1)

    def test_rooms(self):
        for r, m in ROOM:
            told = kept(judge_forms, r, m)
            self.assertTrue(second.forms_right(r, m, told), (r, m))
            self.assertTells(True, forms_hold, r, m, told)

    def test_kinds(self):
        self.assertTells(("room", -1), judge_forms, power(1), 4)
        self.assertTells(("point", "far"), judge_forms, power(1), 6)
        self.assertTells(("point", (0, 1)), judge_forms, quotient([1], {0: [0, 0, 1]}), 6)
        self.assertIn(judge_forms(quotient([0, 1], {0: [0, 0, 1]}), 2), (("point", (0, 1)), ("point", "far")))
        self.assertEqual(judge_forms(whittaker(2, 3), 2)[0], "none")
        self.assertTells(("none", (1,)), judge_forms, quotient([1], {0: [1]}), 2)

    def test_drawn(self):
        source = random.Random(56)
        kinds = {}
        for _ in range(120):
            tails = {c: [source.randint(-3, 3) for _ in range(source.choice((0, 1, 1, 2, 3)))] +
                     [source.choice((2, 6, 12, 3, Fraction(-3, 16), Fraction(5, 16)))]
                     for c in source.sample(range(-3, 4), source.randint(0, 2))}
            r = quotient(source.choice(([], [], [1], [0, 1], [source.randint(-5, 5), 0, 1])), tails)
            for m in (2, 4, 6):
                found = bounds(r, m)
                if found is None or found[1] <= 12:
                    told = kept(judge_forms, r, m)
                    kinds[told[0]] = kinds.get(told[0], 0) + 1
                    self.assertTrue(second.forms_right(r, m, told), (r, m))
                    self.assertTells(True, forms_hold, r, m, told)
        self.assertGreater(min(kinds.get(kind, 0) for kind in ("forms", "none", "room", "point")), 5)


class OthersTest(SameCase):
    """Certificates that somebody else made."""

    def test_other_forms(self):
        source = random.Random(57)
        for r, m, many in MANY:
            if many:
                kind, forms, places = judge_forms(r, m)
                for _ in range(3):
                    told = sums(forms, source)
                    self.assertTells(True, forms_hold, r, m, (kind, told, places))
                    self.assertTells(False, forms_hold, r, m, (kind, told + told[:1], places))
                    if many > 1:
                        same = (total(told[1:]),) + told[1:]
                        self.assertTells(False, forms_hold, r, m, (kind, same, places))
                        self.assertTells(False, forms_hold, r, m, (kind, told[1:], places))
                        self.assertTells(False, forms_hold, r, m, (kind, told[1:] + told[1:2], places))

    def test_other_places(self):
        right, others = 0, 0
        for r, m in ROOM:
            told = judge_forms(r, m)
            places = told[-1]
            if told[0] in ("none", "forms") and places:
                for more in self.choices(places, reach(r, m)):
                    thing = told[:-1] + (more,)
                    holds = forms_hold(r, m, thing)
                    self.assertSame(holds, second.places_right(second.columns(r, m), more, len(places)))
                    right += holds
                    others += not holds
        self.assertGreater(min(right, others), 40)

    def choices(self, places, length):
        source = random.Random(len(places))
        found = [tuple(sorted(source.sample(range(length), len(places)))) for _ in range(12)]
        found += list(combinations(range(length), len(places)))[:5] if length < 12 else []
        return found + [places[:-1] + (length,), places[:-1] + (300,), tuple(range(length - len(places), length))]


class WrongTest(SameCase):
    def bad(self, r, m, thing):
        self.assertTells(False, forms_hold, r, m, thing)

    def test_places(self):
        for r, m in ROOM:
            told = judge_forms(r, m)
            places = told[-1]
            for more in (places + places[-1:], places + (250,), (300,) + places, places[:-1] + (True,),
                         list(places), places + (0,), None, "", (None,) * len(places), (-1,) + places[1:]):
                if more != places:
                    self.bad(r, m, told[:-1] + (more,))
            if len(places) > 0:
                self.bad(r, m, told[:-1] + (places[1:],))
                self.bad(r, m, told[:-1] + (places[:-1],))
                self.bad(r, m, told[:-1] + (places[:-1] + (290,),))
                self.bad(r, m, told[:-1] + (places[:-1] + (10 ** 39,),))
                self.bad(r, m, told[:-1] + (places[:-1] + (str(places[-1]),),))
            if len(places) > 1:
                self.bad(r, m, told[:-1] + (places[::-1],))
                self.bad(r, m, told[:-1] + (places[1:] + places[:1],))
                self.bad(r, m, told[:-1] + (places[:-1] + places[-2:-1],))

    def test_a_bool_as_a_place(self):
        # Here 1 is right, and True is not; the same for 0 and False.
        r = quotient([1], {0: [1]})
        self.assertTells(True, forms_hold, r, 2, ("none", (1,)))
        self.bad(r, 2, ("none", (True,)))
        r, m = ROOM[16]
        self.assertTells(True, forms_hold, r, m, ("none", (0, 1, 2, 3)))
        self.bad(r, m, ("none", (False, 1, 2, 3)))
        self.bad(r, m, ("none", (0, True, 2, 3)))

    def test_forms(self):
        for r, m, many in MANY:
            if many:
                kind, forms, places = judge_forms(r, m)
                first = forms[0]
                for other in (ZERO, plus(first, ((number(7), ONE), ((((9, 1)), (ONE,)),))), product(first, ROOT), [first],
                              list(first), None, True, first + ((),), product(first, (((), ONE), (((7, 1), (ONE,)),)))):
                    self.bad(r, m, (kind, (other,) + forms[1:], places))
                for other in (list(forms), (), forms[1:], forms + (ZERO,), forms + forms, first, None, "forms"):
                    self.bad(r, m, (kind, other, places))
                self.bad(r, m, (kind, forms))
                self.bad(r, m, (kind, forms, places, ()))
                self.bad(r, m, [kind, forms, places])
                self.bad(r, m, ("none", places))

    def test_other_kinds(self):
        for r, m, many in MANY + tuple((r, m, None) for r, m in ROOM) + ((power(1), 6, 0), (power(-3), 2, 0)):
            right = judge_forms(r, m)
            for thing in (("room", -1), ("room", 0), ("room", 1), ("room", True), ("room", -2), ("room", "-1"), ("room",),
                          ("point", "far"), ("point", (0, 1)), ("point", (1, 1)), ("point", None), ("point", ["far"]),
                          ("none", ()), ("none", (0,)), ("none", (0, 1)), ("forms", (), ()), ("forms", ((((ONE,), ())),), ())):
                self.assertSame(kept(forms_hold, r, m, thing), second.forms_right(r, m, thing))
                if thing[0] != right[0]:
                    self.bad(r, m, thing)

    def test_no_forms_told(self):
        for r, m in ROOM:
            told = judge_forms(r, m)
            if told[0] == "none":
                self.bad(r, m, ("forms", (), told[1]))
                self.bad(r, m, ("forms", (), ()))
                self.bad(r, m, ("forms", told[1], ()))

    def test_room(self):
        self.assertTells(True, forms_hold, power(1), 8, ("room", -2))
        for thing in (("room", -1), ("room", -3), ("room", 2), ("room", (-2,)), ("room", [-2]), ("room", -2, 0), ["room", -2]):
            self.bad(power(1), 8, thing)
        self.bad(power(1), 6, ("room", -1))
        self.bad(power(1), 6, ("room", -2))

    def test_point(self):
        r = quotient([0, 1], {0: [0, 0, 1], 1: [1], 2: [0, 0, 0, 0, 5]})
        for point in ((0, 1), (2, 1), "far"):
            self.assertTells(True, forms_hold, r, 2, ("point", point))
            self.bad(r, 2, ("point", [point]))
            self.bad(r, 2, ("point", point, 0))
            self.bad(r, 4, ("point", point))
        for point in ((1, 1), (5, 1), (0, 2), (False, 1), [0, 1], "Far", None, True):
            self.bad(r, 2, ("point", point))

    def test_any_value(self):
        for r, m in ((ZERO, 2), (power(1), 4), (power(1), 6), (whittaker(2, 3), 2)):
            told = judge_forms(r, m)
            for thing in makers.ODD_VALUES + ((), ("forms",), ("none",), ("room",), ("point",), "forms"):
                self.bad(r, m, thing)
                for k in range(len(told)):
                    if thing != told[k]:
                        self.bad(r, m, told[:k] + (thing,) + told[k + 1:])

    def test_spoiled(self):
        source = random.Random(58)
        right = 0
        for r, m, many in MANY:
            told = judge_forms(r, m)
            found = bounds(r, m)
            columns = second.columns(r, m) if found is not None and found[1] >= 0 else None
            for _ in range(20):
                thing = makers.spoiled(source, told)
                holds = kept(forms_hold, r, m, thing)
                self.assertSame(holds, second.forms_right(r, m, thing, columns))
                right += holds
        self.assertGreater(right, 15)

    def test_errors(self):
        right = ("room", -1)
        for thing in wrong.EQUATIONS:
            for m in (4, None):
                self.assertBad(BadEquation, thing, judge_forms, thing, m)
                self.assertBad(BadEquation, thing, many_forms, thing, m)
                self.assertBad(BadEquation, thing, forms_hold, thing, m, right)
        for thing in wrong.DEGREES:
            self.assertBad(BadDegree, thing, judge_forms, power(1), thing)
            self.assertBad(BadDegree, thing, many_forms, power(1), thing)
            self.assertBad(BadDegree, thing, forms_hold, power(1), thing, right)
            self.assertBad(BadDegree, thing, forms_hold, power(1), thing, None)


class LimitsTest(SameCase):
    def test_large(self):
        source = random.Random(59)
        b = (Fraction(13, 2) ** 2 - 1) / 4
        drawn = [Fraction(source.randint(1, 1000), source.randint(1, 1000)) for _ in range(20)]
        tails = {Fraction(-19, 20): drawn[:6], Fraction(1, 17): [drawn[6], b], Fraction(20, 7): [drawn[7], b]}
        r = quotient(drawn[8:15], tails)
        self.assertEqual(bounds(r, 4)[1], 10)
        told = judge_forms(r, 4)
        self.assertEqual(told[0], "none")
        self.assertIs(forms_hold(r, 4, told), True)
        self.assertIs(forms_hold(r, 4, ("none", tuple(range(11, 22)))), True)
        self.assertEqual(len(equation(r, 4, 300)), 11)

    def test_twelve_with_room(self):
        r = three_points(Fraction(3, 2), THIRD, Fraction(-2, 3))
        told = judge_forms(r, 12)
        self.assertEqual((told[0], bounds(r, 12)[1]), ("forms", 9))
        self.assertIs(forms_hold(r, 12, told), True)


if __name__ == "__main__":
    unittest.main()
