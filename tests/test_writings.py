"""7.1: writings of quotients, and the quotients that have them."""

import random
import unittest
from fractions import Fraction

import makers
import oracle
from equations import ONE, ZERO, number, quotient, root
from same import SameCase, is_exact, kept
from twiceslope.errors import BadQuotient, BadWriting
from twiceslope.putin import quotient_of, writing
from twiceslope.quotients import is_quotient, plus, slope

HALF = Fraction(1, 2)
SURD = ((-6, 1, 2), (1, -3, 1))
POWERS = (((-1, 2), ((1, 2, 3),)), ((0, 1), ((2, 1, 1),)), ((3, 1), ((1, -4, 1),)))
G = (((), ONE, SURD), (((0, 1), (ONE, SURD)), ((5, 4), (number(HALF),))))


def simple(powers):
    """The sum of all e / (x - c)."""
    return ((), tuple((c, (e,)) for c, e in powers))


def drawn(source, many):
    """A quotient with many poles: orders up to 6, zeros within rows, a whole of degree up to 7, roots in numbers."""
    orders = [source.randint(1, 6) for _ in range(many)]
    return makers.quotient(source, source.randint(-1, 7), orders, source.randint(1, 2))


def drawn_powers(source, many):
    return tuple((c, makers.number(source, source.randint(1, 3), 3)) for c in makers.poles(source, many))


def drawn_integral(source, many):
    whole, tails = drawn(source, many)
    return (((),) + whole if whole else (), tails)


def is_writing(powers, g):
    """Whether two values are a writing, by the definition."""
    if type(powers) is not tuple or not all(type(pair) is tuple and len(pair) == 2 for pair in powers):
        return False
    return oracle.is_quotient(simple(powers)) and oracle.is_quotient(g) and g[0][:1] in ((), ((),))


class WritingTest(SameCase):
    def test_told(self):
        # 2 x + (1/3) / x - 3 / x ** 2.
        t = quotient([0, 2], {0: [Fraction(1, 3), -3]})
        self.assertTells(((((0, 1), number(Fraction(1, 3))),), quotient([0, 0, 1], {0: [3]})), writing, t)
        self.assertTells(((), ZERO), writing, ZERO)
        self.assertTells(((), quotient([0, 5])), writing, quotient([5]))
        self.assertTells((((((2, 3), SURD)),), ZERO), writing, ((), (((2, 3), (SURD,)),)))
        self.assertTells(((), quotient([], {1: [-1]})), writing, quotient([], {1: [0, 1]}))
        self.assertTells(((), quotient([], {1: [0, 0, -HALF]})), writing, quotient([], {1: [0, 0, 0, Fraction(3, 2)]}))
        told = (((), SURD), (((1, 2), ((), (), SURD)),))
        self.assertTells(((), (((), (), ((-6, 1, 4), (1, -3, 2))), (((1, 2), ((), ((-6, -1, 4), (1, 3, 2)))),))),
            writing, told)

    def test_drawn(self):
        source = random.Random(71)
        for many in range(5):
            for _ in range(12):
                t = drawn(source, many)
                powers, g = kept(writing, t)
                # It is a writing by its definition, and t is the sum that it tells.
                self.assertTrue(is_exact(powers) and is_quotient(g))
                self.assertSame(powers, tuple((c, row[0]) for c, row in t[1] if row[0]))
                self.assertTrue(g[0][:1] in ((), ((),)))
                self.assertSame(plus(simple(powers), slope(g)), t)
                self.assertTells(t, quotient_of, powers, g)

    def test_all_orders(self):
        for order in range(1, 7):
            for first in ((), ONE):
                row = (first,) + ((),) * (order - 2) + (SURD,) if order > 1 else (SURD,)
                t = ((), (((7, 3), row),))
                powers, g = kept(writing, t)
                self.assertEqual(len(powers), 1 if order == 1 or first else 0)
                self.assertEqual(len(g[1]), 1 if order > 1 else 0)
                self.assertTells(t, quotient_of, powers, g)

    def test_no_quotient(self):
        for thing in makers.ODD_VALUES + ((), ((),), ((), (), ()), [(), ()], ((((1, 2, 2),),), ()),
            ((), (((0, 1), ()),))):
            self.assertBad(BadQuotient, thing, writing, thing)
            self.assertBad(BadQuotient, thing, writing, quotient=thing)
        source = random.Random(72)
        wrong = 0
        for _ in range(200):
            thing = makers.spoiled(source, drawn(source, source.randint(0, 3)))
            if not is_quotient(thing):
                self.assertBad(BadQuotient, thing, writing, thing)
                wrong += 1
        self.assertGreater(wrong, 100)


class QuotientOfTest(SameCase):
    def test_told(self):
        self.assertTells(ZERO, quotient_of, (), ZERO)
        self.assertTells(quotient([5]), quotient_of, (), quotient([0, 5]))
        self.assertTells(root(3, HALF), quotient_of, (((3, 1), number(HALF)),), ZERO)
        # The pole of g is none of the powers, or one of them.
        self.assertTells(quotient([], {0: [0, -2], 1: [5]}), quotient_of, (((1, 1), number(5)),),
            quotient([], {0: [2]}))
        self.assertTells(quotient([], {0: [5, -2]}), quotient_of, (((0, 1), number(5)),), quotient([], {0: [2]}))

    def test_drawn(self):
        source = random.Random(73)
        for many in range(5):
            for _ in range(10):
                powers, g = drawn_powers(source, many), drawn_integral(source, source.randint(0, 4))
                t = kept(quotient_of, powers, g)
                self.assertSame(t, plus(simple(powers), slope(g)))
                self.assertTells((powers, g), writing, t)

    def bad(self, powers, g):
        self.assertBad(BadWriting, (powers, g), quotient_of, powers, g)
        self.assertBad(BadWriting, (powers, g), quotient_of, g=g, powers=powers)

    def test_right(self):
        kept(quotient_of, POWERS, G)

    def test_powers_wrong_in_one_place(self):
        (c, e), (d, f), (b, h) = POWERS
        for powers in (
            ((c, ()), (d, f), (b, h)), ((c, e), (d, ()), (b, h)), ((c, e), (d, f), (b, ())),
            ((d, f), (c, e), (b, h)), ((c, e), (b, h), (d, f)), POWERS[::-1],
            ((c, e), (c, e), (d, f)), ((c, e), (d, f), (d, h)), POWERS + POWERS[-1:],
            (((-2, 4), e), (d, f)), ((c, e), ((0, 2), f)), ((c, e), ((6, 2), f)), ((c, e), ((1, 0), f)),
            ((c, e), ((3, -1), f)), (((True, 1), e),), (((1, True), e),), (((False, 1), e),), (([0, 1], e),),
            (((0, 1, 1), e),), (((0,), e),), ((0, e),), (("0", e),), ((None, e),), ((("0", 1), e),),
            ((c, 1),), ((c, ONE[0]),), ((c, [(1, 1, 1)]),), ((c, ((1, 2, 4),)),), ((c, ((4, 1, 1),)),),
            ((c, ((1, 0, 1),)),),
            ((c, ((1, True, 1),)),), ((c, ((True, 1, 1),)),), ((c, ((1, 1, -1),)),), ((c, ((2, 1, 1), (1, 1, 1))),),
            ((c, (e,)),), ((c,),), ((c, e, e),), ([c, e],), (c, e), ((),), [(c, e)], [], {}, {c: e}, None, "", 0, True,
            simple(POWERS), simple(POWERS)[1],
        ):
            self.bad(powers, G)
            self.bad(powers, ZERO)

    def test_integral_wrong_in_one_place(self):
        whole, tails = G
        for g in (
            ((ONE,), ()), ((ONE,), tails), ((SURD,) + whole[1:], tails), ((ONE,) + whole, tails), (((),), ()),
            (((), ()), tails),
            (whole, tails[::-1]), (whole, tails + tails[-1:]), (whole, list(tails)), (list(whole), tails),
            [whole, tails],
            (whole,), (whole, tails, ()), whole, tails, (), None, 0, True, "", [], {}, (whole, (((0, 2), (ONE,)),)),
            (whole, (((0, 1), ()),)), (whole, (((0, 1), (ONE, ())),)), (whole, (((False, 1), (ONE,)),)), ((0, ONE), ()),
            (((), ((1, True, 1),)), ()), (((), ((1, 2, 2),)), ()), ((None, ONE), ()), (((), [(1, 1, 1)]), ()),
        ):
            self.bad(POWERS, g)
            self.bad((), g)

    def test_any_value(self):
        for thing in makers.ODD_VALUES:
            self.bad(thing, thing)
            self.bad(POWERS, thing)
            self.bad(thing, G)

    def test_spoiled(self):
        source = random.Random(74)
        found = {True: 0, False: 0}
        for _ in range(300):
            powers, g = drawn_powers(source, source.randint(0, 3)), drawn_integral(source, source.randint(0, 2))
            powers, g = source.choice(((makers.spoiled(source, powers), g), (powers, makers.spoiled(source, g))))
            right = is_writing(powers, g)
            found[right] += 1
            if right:
                self.assertTells((powers, g), writing, kept(quotient_of, powers, g))
            else:
                self.bad(powers, g)
        self.assertGreater(min(found.values()), 20)


if __name__ == "__main__":
    unittest.main()
