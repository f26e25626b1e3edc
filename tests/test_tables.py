"""4.4: certificates of answers, of odd points, and tables."""

import random
import unittest
from fractions import Fraction

import makers
import second
import wrong
from equations import ONE, ZERO, bessel, number, power, quotient, square_equation, three_points, weber, whittaker
from same import SameCase, kept
from test_answers import DOUBLED, KINDS, NONE
from twiceslope.errors import BadEquation
from twiceslope.numbers import added, times
from twiceslope.quotients import product
from twiceslope.slopes import judge_slopes, lines, slopes_hold

HALF = Fraction(1, 2)
BIG = ((-7, 1, 3), (2, 5, 1))
ODD = (
    (power(1), ("far",)), (power(-1), ("far",)), (power(-3), ((0, 1),)), (power(-5), ((0, 1),)), (power(5), ("far",)),
    (quotient([0, 1], {Fraction(-1, 2): [0, 0, 1], 1: [1], 2: [3, 4, 5, 6, 7]}), ((-1, 2), (2, 1), "far")),
    (quotient([1], {0: [1, 2], 3: [0, 0, 2]}), ((3, 1),)),
)
# Below the second row there are open lines, with counts from 0 to 12.
TABLES = (
    weber(1), bessel(Fraction(1, 3)), power(2), power(-6), whittaker(2, Fraction(1, 3)), three_points(HALF, HALF, HALF),
    three_points(HALF, Fraction(1, 3), Fraction(1, 3)), quotient([2], {0: [5, 6], 1: [-3, 0, 0, 8]}),
    quotient([1], {0: [2, 2], 1: [-4, 6]}), quotient([1], {0: [22, 2], 1: [-4, 6]}), quotient([1, 0, 1], {0: [1, 2]}),
    quotient([9, 0, 1], {0: [1, 2]}), quotient([-3, 0, 1], {0: [1]}), quotient([5, 0, 1], {0: [0, 5, 0, 1]}),
    quotient([0, -2, 1, 0, 1]), quotient([1, -12, 0, 0, 1]), quotient([0, 3, -7, 0, 0, 0, 1]),
    quotient([0, 3, -25, 0, 0, 0, 1]), quotient([], {0: [1, 2], 1: [4, 6], 2: [-5]}),
    quotient([], {0: [1, 2], 1: [6, 6], 2: [-7]}), quotient([4], {1: [4], 2: [8]}),
    quotient([3], {0: [1, 0, 0, 0, 0, 2], 1: [0, 12], 2: [-1, 0, 0, 0, 0, 2]}),
    quotient([3], {0: [1, 1, 0, 0, 0, 2], 1: [0, 30], 2: [-1, 0, 0, 0, 0, 2]}),
)


def open_rows(r):
    """The places of the open lines in a table."""
    return [at for at, row in enumerate(judge_slopes(r)[1]) if row != "shut"]


def with_row(told, at, row):
    return (told[0], told[1][:at] + (row,) + told[1][at + 1:])


def all_weights(worth, weights):
    return tuple(times(weight, worth) for weight in weights)


class JudgeTest(SameCase):
    def test_kinds(self):
        for kind, equations in KINDS:
            for r in equations:
                told = kept(judge_slopes, r)
                self.assertEqual(told[0] == "answer", kind != "none")
                self.assertTrue(second.slopes_right(r, told))
                self.assertTells(True, slopes_hold, r, told)

    def test_odd(self):
        for r, points in ODD:
            told = kept(judge_slopes, r)
            self.assertIn(told, [("odd", point) for point in points])
            for point in points:
                self.assertTells(True, slopes_hold, r, ("odd", point))

    def test_tables(self):
        many = 0
        for r in TABLES:
            told = kept(judge_slopes, r)
            self.assertEqual(told[0], "table")
            self.assertTrue(second.slopes_right(r, told))
            self.assertTells(True, slopes_hold, r, told)
            self.assertEqual(len(open_rows(r)), len(lines(r)))
            many += len(lines(r))
        self.assertGreater(many, 40)
        self.assertEqual({d for r in TABLES for _, d in lines(r)} & {0, 1, 2, 12}, {0, 1, 2, 12})

    def test_drawn(self):
        source = random.Random(47)
        kinds = {}
        for _ in range(150):
            orders = [source.choice((1, 2, 2, 4)) for _ in range(source.randint(0, 3))]
            places = source.sample(range(-3, 4), len(orders))
            tails = {c: [source.randint(-4, 4) for _ in range(order - 1)] for c, order in zip(places, orders)}
            for c in tails:
                tails[c].append({1: source.randint(1, 9), 2: source.choice((2, 6, Fraction(3, 4), Fraction(-3, 16)))}.get(
                    len(tails[c]) + 1, source.choice((1, 4, 2))))
            whole = source.choice(([], [1], [source.randint(-9, 9), source.randint(-4, 4), 1]))
            r = quotient(whole, tails)
            told = kept(judge_slopes, r)
            kinds[told[0]] = kinds.get(told[0], 0) + 1
            self.assertTrue(second.slopes_right(r, told))
            self.assertTells(True, slopes_hold, r, told)
        self.assertGreater(min(kinds.get(kind, 0) for kind in ("answer", "odd", "table")), 5)


class OthersTest(SameCase):
    """Certificates that somebody else made."""

    def test_answers(self):
        for whole in (ONE, number(-5), BIG):
            self.assertTells(True, slopes_hold, power(0), ("answer", quotient([1]), (whole,)))
            self.assertTells(True, slopes_hold, power(0), ("answer", quotient([-1]), (whole,)))
        self.assertTells(True, slopes_hold, DOUBLED, ("answer", quotient([1], {0: [-1]}), ((), (), (), ONE)))
        self.assertTells(True, slopes_hold, DOUBLED, ("answer", quotient([1], {0: [1]}), ((), BIG)))

    def test_weights(self):
        for r in TABLES:
            told = judge_slopes(r)
            for at in open_rows(r):
                row = told[1][at]
                for worth in (number(-1), number(Fraction(3, 7)), BIG):
                    self.assertTells(True, slopes_hold, r, with_row(told, at, all_weights(worth, row)))
                self.assertTells(True, slopes_hold, r, with_row(told, at, row + ((),)))
                self.assertTells(True, slopes_hold, r, with_row(told, at, row + ((),) * (40 - len(row))))

    def test_weights_behind_the_end(self):
        # No F(P) of these has a number at x ** 20 and above.
        for r in (TABLES[8], TABLES[10], TABLES[15], TABLES[18], TABLES[20]):
            told = judge_slopes(r)
            for at in open_rows(r):
                row = told[1][at] + ((),) * (20 - len(told[1][at])) + (BIG, ONE)
                self.assertTells(True, slopes_hold, r, with_row(told, at, row))

    def test_fewer_weights(self):
        # Where d is 0, a single weight at a number of F(1) other than 0 is right, with nothing behind it.
        found = 0
        for r in TABLES:
            for at in open_rows(r):
                trunk, d = second.outlines(r)[at]
                told = second.target(r, trunk, second.unit(d))
                for k in range(len(told) if d == 0 else 0):
                    thing = with_row(judge_slopes(r), at, second.unit(k))
                    self.assertTells(told[k] != (), slopes_hold, r, thing)
                    found += 1
        self.assertGreater(found, 20)

    def test_sums_of_weights(self):
        source = random.Random(48)
        for r in TABLES:
            told = judge_slopes(r)
            for at in open_rows(r):
                row = told[1][at]
                for _ in range(3):
                    k = source.randrange(len(row) + 3)
                    more = row + ((),) * (k + 1 - len(row))
                    more = more[:k] + (added(more[k], ONE),) + more[k + 1:]
                    thing = with_row(told, at, more)
                    self.assertSame(kept(slopes_hold, r, thing), second.slopes_right(r, thing))


class WrongTest(SameCase):
    def bad(self, r, thing):
        self.assertTells(False, slopes_hold, r, thing)

    def test_kinds_of_other_equations(self):
        for r, points in ODD:
            self.bad(r, ("table", ()))
            self.bad(r, ("table", ("shut",) * len(second.outlines(r))))
            for point in ((0, 1), (1, 1), (3, 1), (2, 1), (-1, 2), "far", "Far", ["far"], ("far",), None, True, (9, 9)):
                if point not in points:
                    self.bad(r, ("odd", point))
        for r in TABLES + (ZERO, power(0), weber(HALF)):
            for point in ("far", (0, 1), (1, 1), (-1, 1), None):
                self.bad(r, ("odd", point))
        for r in NONE:
            self.bad(r, ("answer", quotient([1]), (ONE,)))
            self.bad(r, ("answer", ZERO, ()))
        for r in (ZERO, power(0), weber(HALF), DOUBLED):
            self.bad(r, ("table", ("shut",) * len(second.outlines(r))))
            rows = tuple("shut" if line is None else ((1, 1, 1),) * 4 for line in second.outlines(r))
            self.bad(r, ("table", rows))

    def test_rows(self):
        for r in TABLES:
            told = judge_slopes(r)
            rows = told[1]
            self.bad(r, ("table", rows + ("shut",)))
            self.bad(r, ("table", rows[:-1]))
            self.bad(r, ("table", rows[1:]))
            self.bad(r, ("table", list(rows)))
            self.bad(r, ("table", rows, ()))
            self.bad(r, ["table", rows])
            self.bad(r, ("Table", rows))
            self.bad(r, ("table",))
            for at, row in enumerate(rows):
                if row == "shut":
                    for other in ((), (ONE,), "Shut", None, ["shut"], "", True):
                        self.bad(r, with_row(told, at, other))
                else:
                    for other in ("shut", (), list(row), row + (True,), row + (ONE[0],), row + ([],), None, (row,)):
                        self.bad(r, with_row(told, at, other))

    def test_weights(self):
        for r in TABLES:
            told = judge_slopes(r)
            for at in open_rows(r):
                row = told[1][at]
                self.bad(r, with_row(told, at, ((),) * len(row)))
                for k in range(len(row)):
                    if row[k]:
                        self.bad(r, with_row(told, at, row[:k] + (True,) + row[k + 1:]))
                        self.bad(r, with_row(told, at, row[:k] + (list(row[k]),) + row[k + 1:]))
                        thing = with_row(told, at, row[:k] + (added(row[k], number(3)),) + row[k + 1:])
                        self.assertSame(slopes_hold(r, thing), second.slopes_right(r, thing))

    def test_nothing_where_it_must_not_be(self):
        # The weights must not give 0 to the last one, and must give 0 to those below.
        for r in TABLES:
            told = judge_slopes(r)
            for at in open_rows(r):
                trunk, d = second.outlines(r)[at]
                images = [second.target(r, trunk, second.unit(j)) for j in range(d + 1)]
                for k in range(max(len(image) for image in images) + 1):
                    row = second.unit(k)
                    right = all(len(image) <= k or image[k] == () for image in images[:-1])
                    right = right and len(images[-1]) > k and images[-1][k] != ()
                    self.assertTells(right, slopes_hold, r, with_row(told, at, row))

    def test_any_value(self):
        for r in TABLES[:4] + (ZERO, power(0), power(1), DOUBLED):
            told = judge_slopes(r)
            for thing in makers.ODD_VALUES + ((), ("answer",), ("odd",), ("table",), ("table", "shut"), ("odd", "far", 1)):
                self.bad(r, thing)
                self.bad(r, (told[0], thing) + told[2:] if told[0] == "answer" else (told[0], thing))
                self.bad(r, (thing,) + told[1:])
            self.bad(r, list(told))
            self.bad(r, told + (None,))

    def test_spoiled(self):
        source = random.Random(49)
        right = 0
        for r in TABLES + (ZERO, power(0), weber(HALF), DOUBLED, power(1), ODD[5][0]):
            told = judge_slopes(r)
            for _ in range(40):
                thing = makers.spoiled(source, told)
                holds = kept(slopes_hold, r, thing)
                self.assertSame(holds, second.slopes_right(r, thing))
                right += holds
        self.assertGreater(right, 20)

    def test_no_equation(self):
        for thing in wrong.EQUATIONS:
            self.assertBad(BadEquation, thing, judge_slopes, thing)
            self.assertBad(BadEquation, thing, slopes_hold, thing, ("odd", "far"))
            self.assertBad(BadEquation, thing, slopes_hold, thing, None)


class LimitsTest(SameCase):
    """Four poles of the order 6, the degree 6 far away, two roots, counts of 12, numbers of nearly 1,000 in size."""

    def equation(self, d, drawn):
        """Each pole has the choices 3/2, with a root of 2 or of 3, and far away 6 + d is one of the two."""
        tails = {}
        for at, (c, square) in enumerate(((Fraction(-19, 20), 2), (Fraction(-1, 17), 3), (Fraction(3, 19), 2), (20, 3))):
            a, b = drawn[2 * at:2 * at + 2]
            tails[c] = [drawn[-at - 1], drawn[at], Fraction(-997, 1000), square * b * b, 2 * square * a * b, square * a * a]
        a, b, c, e = drawn[8:12]
        far = a * (2 * (d + 6) + 3)
        return quotient([drawn[0], Fraction(-999, 991), c * c + 2 * b * e + far,
                         2 * a * e + 2 * b * c, 2 * a * c + b * b, 2 * a * b, a * a], tails)

    def test_large(self):
        source = random.Random(67)
        for d in (0, 5, 12):
            drawn = [Fraction(source.choice((-1, 1)) * source.randint(1, 19), source.randint(1, 19)) for _ in range(12)]
            r = self.equation(d, drawn)
            self.assertEqual([count for _, count in lines(r)], [d] * 16)
            told = judge_slopes(r)
            self.assertEqual(told[0], "table")
            self.assertIs(slopes_hold(r, told), True)
            at = open_rows(r)[3]
            row = told[1][at]
            more = row + ((),) * (40 - len(row))
            self.assertIs(slopes_hold(r, with_row(told, at, all_weights(BIG, more))), True)
            k = [k for k, weight in enumerate(row) if weight][-1]
            less = row[:k] + (added(row[k], ONE),) + row[k + 1:]
            self.assertSame(slopes_hold(r, with_row(told, at, less)), second.slopes_right(r, with_row(told, at, less)))

    def test_high_polynomials(self):
        whole = (ONE,)
        for _ in range(14):
            whole = product((whole, ()), ((((2, 1, 1),), ONE), ()))[0]
        root = ((), (((1, 1), (number(-13),)),))
        zeros = (ONE,)
        for _ in range(13):
            zeros = product((zeros, ()), ((number(-1), ONE), ()))[0]
        zeros = product((zeros, ()), ((((3, 1, 2),), ONE), ()))[0]
        self.assertEqual((len(whole), len(zeros)), (15, 15))
        self.assertTells(True, slopes_hold, ZERO, ("answer", root, zeros))
        self.assertTells(False, slopes_hold, ZERO, ("answer", root, whole))
        self.assertTells(False, slopes_hold, ZERO, ("answer", ZERO, whole))


if __name__ == "__main__":
    unittest.main()
