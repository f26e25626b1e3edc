"""10.1 to 10.4: named equations, and their verdicts by conditions."""

import random
import unittest
from fractions import Fraction
from itertools import permutations, product as pairs

import equations
import makers
from equations import FACES
from same import SameCase, is_exact, kept
from twiceslope import named
from twiceslope.errors import BadFraction
from twiceslope.forms import bounds
from twiceslope.quotients import is_equation
from twiceslope.verdict import verdict

HALF, THIRD = Fraction(1, 2), Fraction(1, 3)
# Each function with how many fractions it takes.
FRACTIONS = (
    (named.bessel, 1), (named.bessel_verdict, 1), (named.weber, 1), (named.weber_verdict, 1), (named.whittaker, 2),
    (named.whittaker_verdict, 2), (named.three_points, 3), (named.three_points_verdict, 3),
)
# All right parameters.
ALL = sorted({Fraction(top, bottom) for bottom in range(1, 13) for top in range(-6 * bottom, 6 * bottom + 1)})
EDGES = (0, 6, -6, Fraction(1, 12), Fraction(-71, 12), Fraction(71, 12), HALF, -HALF, Fraction(11, 2),
    Fraction(-11, 2), 1, -1, Fraction(65, 11))
WRONG = makers.ODD_VALUES + (
    0, 1, -6, 6, (), (0,), (1, 1, 1), [1, 2], (61, 10), (-61, 10), (7, 1), (-7, 1), (73, 12), (-73, 12), (1, 13),
    (13, 13), (-1, 24),
    (1, 0), (0, 0), (6, 0), (1, -2), (-1, -2), (0, -1), (0, 2), (0, 12), (2, 4), (6, 3), (-3, 9), (12, 12), (True, 2),
    (1, True),
    (False, 1), (True, True), ("1", 2), (1, "2"), ((1, 2),), ((1, 1, 2),), ((1, 1), (1, 1)), "1/2", ("1", "2"),
    (1, None), (10 ** 39, 1),
    (1, 10 ** 39), (1, [2]), {1: 2},
)


def told(worth):
    worth = Fraction(worth)
    return (worth.numerator, worth.denominator)


def three(worths):
    return [Fraction(word) for word in worths.split()]


def rooms_are_small(r):
    return all((bounds(r, m) or (0, 0))[1] <= 12 for m in (4, 6, 8, 12))


class PowerTest(SameCase):
    def test_all(self):
        for n in range(-6, 7):
            self.assertTells(equations.power(n), named.power_equation, n)
            name = "quotient" if n in (0, -2, -4) else "nothing"
            self.assertTells(name, named.power_verdict, n)
            self.assertEqual(verdict(named.power_equation(n)), name)

    def test_wrong(self):
        for thing in [thing for thing in WRONG if type(thing) is not int] + [7, -7, 8, 10 ** 39, -(10 ** 39), True,
            False, (1, 1), (0, 1)]:
            for call in (named.power_equation, named.power_verdict):
                self.assertBad(BadFraction, thing, call, thing)
                self.assertBad(BadFraction, thing, call, n=thing)


class OneParameterTest(SameCase):
    def test_equations(self):
        for worth in ALL:
            for call, other in ((named.bessel, equations.bessel), (named.weber, equations.weber)):
                r = kept(call, told(worth))
                self.assertSame(r, other(worth))
                self.assertTrue(is_equation(r) and is_exact(r))
        minus = (((1, -1, 1),),)
        self.assertTells((minus, ()), named.bessel, (1, 2))
        self.assertTells((minus, ()), named.bessel, (-1, 2))
        self.assertTells((minus, (((0, 1), ((), ((1, -1, 4),))),)), named.bessel, (0, 1))
        self.assertTells((((), (), ((1, 1, 4),)), ()), named.weber, (0, 1))

    def test_verdicts(self):
        for worth in ALL:
            name = "quotient" if (2 * worth).denominator == 1 and (2 * worth) % 2 == 1 else "nothing"
            self.assertTells(name, named.bessel_verdict, told(worth))
            self.assertTells(name, named.weber_verdict, told(worth))

    def test_same_verdict(self):
        source = random.Random(96)
        for worth in list(EDGES) + source.sample(ALL, 40):
            for equation, call in ((named.bessel, named.bessel_verdict), (named.weber, named.weber_verdict)):
                self.assertEqual(verdict(equation(told(worth))), call(told(worth)), (call, worth))


class WhittakerTest(SameCase):
    def check(self, k, m):
        r = kept(named.whittaker, told(k), told(m))
        self.assertSame(r, equations.whittaker(k, m))
        self.assertTrue(is_equation(r) and is_exact(r))
        name = equations.whittaker_verdict(k, m)
        self.assertTells(name, named.whittaker_verdict, told(k), told(m))
        return r, name

    def test_told(self):
        quarter = (((1, 1, 4),),)
        self.assertTells((quarter, (((0, 1), (((1, -1, 1),),)),)), named.whittaker, (1, 1), (1, 2))
        self.assertTells((quarter, ()), named.whittaker, (0, 1), (-1, 2))
        self.assertTells((quarter, (((0, 1), ((), ((1, 143, 4),))),)), named.whittaker, (0, 1), (6, 1))
        for k, m, name in (
            ((1, 1), (1, 2), "quotient"), ((1, 3), (1, 5), "nothing"), ((1, 2), (0, 1), "quotient"),
            ((0, 1), (0, 1), "nothing"),
            ((-1, 2), (0, 1), "quotient"), ((0, 1), (1, 2), "quotient"), ((1, 3), (1, 6), "quotient"),
            ((1, 3), (-1, 6), "quotient"),
            ((-1, 3), (-1, 6), "quotient"), ((1, 3), (7, 6), "quotient"), ((1, 3), (5, 6), "quotient"),
            ((1, 4), (1, 12), "nothing"),
            ((6, 1), (11, 2), "quotient"), ((-6, 1), (11, 2), "quotient"), ((1, 6), (1, 6), "nothing"),
            ((1, 12), (5, 12), "quotient"),
        ):
            self.assertTells(name, named.whittaker_verdict, k, m)

    def test_edges(self):
        for k in EDGES:
            for m in EDGES:
                self.check(k, m)

    def test_drawn(self):
        source = random.Random(97)
        found = {"quotient": 0, "nothing": 0}
        for _ in range(1200):
            k, m = source.choice(ALL), source.choice(ALL)
            if source.random() < 0.5:
                k = source.choice((1, -1)) * m + HALF + source.randint(-5, 5)
            if k in ALL:
                found[self.check(k, m)[1]] += 1
        self.assertGreater(min(found.values()), 200)

    def test_same_verdict(self):
        source = random.Random(98)
        found = {"quotient": 0, "nothing": 0}
        for _ in range(150):
            m = source.choice([worth for worth in ALL if abs(worth) < 2])
            k = source.choice((source.choice(ALL), source.choice((1, -1)) * m + HALF + source.randint(-3, 3)))
            if k in ALL:
                r, name = self.check(k, m)
                if rooms_are_small(r):
                    self.assertEqual(verdict(r), name, (k, m))
                    found[name] += 1
        self.assertGreater(min(found.values()), 20)


class ThreePointsTest(SameCase):
    def check(self, *worths):
        parameters = [told(worth) for worth in worths]
        r = kept(named.three_points, *parameters)
        self.assertSame(r, equations.three_points(*worths))
        self.assertTrue(is_equation(r) and is_exact(r))
        name = equations.three_points_verdict(*worths)
        self.assertTells(name, named.three_points_verdict, *parameters)
        return r, name

    def test_equations(self):
        self.assertTells(((), ()), named.three_points, (1, 1), (1, 1), (1, 1))
        self.assertTells(((), ()), named.three_points, (-1, 1), (1, 1), (-1, 1))
        told_row = (((0, 1), (((1, -1, 4),),)), ((1, 1), (((1, 1, 4),), ((1, -1, 4),))))
        self.assertTells(((), told_row), named.three_points, (1, 1), (0, 1), (1, 1))
        for worths in permutations((0, HALF, Fraction(-35, 6))):
            self.check(*worths)

    def test_edges(self):
        source = random.Random(99)
        for worths in pairs(EDGES[:7], repeat=3):
            self.check(*worths)
        for _ in range(150):
            self.check(*[source.choice(EDGES) for _ in range(3)])

    def test_rows(self):
        """The rows of the table: in all orders, with all signs, with integers added whose sum is even or odd."""
        source = random.Random(100)
        found = {}
        for name in FACES:
            for row in FACES[name]:
                for order in permutations(three(row)):
                    for signs in pairs((1, -1), repeat=3):
                        steps = [source.randint(-4, 4) for _ in range(3)]
                        for last in (0, 1):
                            more = steps[:2] + [steps[2] + last]
                            worths = [sign * (worth + step) for sign, worth, step in zip(signs, order, more)]
                            if all(worth in ALL for worth in worths):
                                r, result = self.check(*worths)
                                if sum(more) % 2 == 0:
                                    self.assertEqual(result, name, worths)
                                found[result] = found.get(result, 0) + 1
        self.assertEqual(set(found), {"quotient", "four faces", "eight faces", "twenty faces", "nothing"})

    def test_halves(self):
        halves = [worth for worth in ALL if worth.denominator == 2]
        source = random.Random(101)
        for _ in range(100):
            one, other, third = (source.choice(halves) for _ in range(3))
            self.assertEqual(self.check(one, other, third)[1], "eight")
            third = source.choice([worth for worth in ALL if worth.denominator > 2])
            for worths in permutations((one, other, third)):
                self.assertEqual(self.check(*worths)[1], "square")
            self.assertIn(self.check(one, other, source.randint(-6, 6))[1], ("quotient", "square"))

    def test_odd_integers(self):
        source = random.Random(102)
        found = {}
        for _ in range(900):
            l, m = source.choice(ALL), source.choice(ALL)
            n = source.choice((1, -1)) * l + source.choice((1, -1)) * m + source.randint(-4, 4)
            if n in ALL:
                worths = [l, m, n]
                source.shuffle(worths)
                name = self.check(*worths)[1]
                found[name] = found.get(name, 0) + 1
        self.assertGreater(min(found.get("quotient", 0), found.get("nothing", 0)), 50)

    def test_drawn(self):
        source = random.Random(103)
        small = [worth for worth in ALL if worth.denominator < 7]
        for _ in range(500):
            self.check(*[source.choice(small) for _ in range(3)])
        for _ in range(200):
            self.check(*[source.choice(ALL) for _ in range(3)])

    def test_same_verdict(self):
        source = random.Random(104)
        found = {}
        rows = [three(row) for name in FACES for row in FACES[name]]
        rows += [three(row) for row in ("1/2 1/2 1/7", "1/2 1/2 1/2", "1/2 1/2 1/11", "1/3 1/3 1/3", "1/2 1/3 1/7",
            "1/12 1/4 1/3", "0 0 0")]
        for row in rows * 6:
            worths = [source.choice((1, -1)) * (worth + source.choice((0, 0, 1, -1))) for worth in row]
            source.shuffle(worths)
            r, name = self.check(*worths)
            if rooms_are_small(r):
                self.assertEqual(verdict(r), name, worths)
                found[name] = found.get(name, 0) + 1
        self.assertEqual(len(found), 7)
        self.assertGreater(min(found.values()), 3)


class WrongTest(SameCase):
    def test_first_one(self):
        for call, many in FRACTIONS:
            names = call.__code__.co_varnames[:many]
            for thing in WRONG:
                for at in range(many):
                    right = [(1, 2), (0, 1), (-6, 1)][:many]
                    given = right[:at] + [thing] + right[at + 1:]
                    self.assertBad(BadFraction, thing, call, *given)
                    self.assertBad(BadFraction, thing, call, **dict(reversed(list(zip(names, given)))))
                    # The first one of several.
                    given = right[:at] + [thing] + [(0, 0), []][:many - at - 1]
                    self.assertBad(BadFraction, thing, call, *given)

    def test_edges_are_right(self):
        for call, many in FRACTIONS:
            for worth in ((6, 1), (-6, 1), (0, 1), (71, 12), (-71, 12), (1, 12), (65, 11)):
                kept(call, *[worth] * many)


if __name__ == "__main__":
    unittest.main()
