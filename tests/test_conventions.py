"""0.2: names of parameters, kinds of results, arguments that stay as they are, equal results of equal calls."""

import inspect
import random
import unittest

import makers
from same import SameCase, is_exact, kept, same
from twiceslope import numbers, quotients
from twiceslope.errors import BadNumber, BadPoint, BadQuotient

ONE, ROOT = ((1, 1, 1),), ((-6, 1, 2), (1, -3, 1))
HALF = ((1, 1, 2),)
LINE = (((), ONE), (((-1, 2), (ROOT, HALF)), ((1, 1), ((), HALF))))
OTHER = ((HALF,), (((1, 1), (ONE,)),))

# Each function of the interface: its parameters in their order, with arguments.
CALLS = (
    (numbers, "is_number", (("thing", ROOT),)),
    (numbers, "is_fraction", (("thing", HALF),)),
    (numbers, "fraction", (("top", 6), ("bottom", -4))),
    (numbers, "added", (("one", ROOT), ("other", HALF))),
    (numbers, "taken", (("one", ROOT), ("other", HALF))),
    (numbers, "times", (("one", ROOT), ("other", HALF))),
    (numbers, "over", (("one", HALF), ("other", ROOT))),
    (numbers, "root_of", (("top", -8), ("bottom", 9))),
    (numbers, "integer_of", (("number", ((1, -7, 1),)),)),
    (quotients, "is_polynomial", (("thing", ((), ROOT)),)),
    (quotients, "is_quotient", (("thing", LINE),)),
    (quotients, "is_equation", (("thing", OTHER),)),
    (quotients, "plus", (("one", LINE), ("other", OTHER))),
    (quotients, "product", (("one", LINE), ("other", OTHER))),
    (quotients, "slope", (("quotient", LINE),)),
    (quotients, "row_at", (("quotient", LINE), ("c", (2, 3)), ("many", 4))),
    (quotients, "row_far", (("quotient", LINE), ("many", 4))),
)


class CallsTest(SameCase):
    def test_by_position_and_by_name(self):
        for module, name, told in CALLS:
            call = getattr(module, name)
            first = kept(call, *[worth for _, worth in told])
            self.assertSame(kept(call, **dict(told)), first)
            self.assertSame(kept(call, **dict(reversed(told))), first)

    def test_parameters(self):
        for module, name, told in CALLS:
            parameters = inspect.signature(getattr(module, name)).parameters
            self.assertEqual(list(parameters), [word for word, _ in told])

    def test_defined_where_they_are_listed(self):
        for module, name, _ in CALLS:
            self.assertEqual(getattr(module, name).__module__, module.__name__)

    def test_kinds_of_results(self):
        for module, name, told in CALLS:
            result = getattr(module, name)(**dict(told))
            if name.startswith("is_"):
                self.assertIs(result, True)
            else:
                self.assertTrue(is_exact(result))

    def test_first_position_counts(self):
        self.assertTells(((-6, 1, 2), (1, -7, 2)), numbers.taken, ROOT, HALF)
        self.assertTells(((-6, -1, 2), (1, 7, 2)), numbers.taken, other=ROOT, one=HALF)


class AnyValueTest(SameCase):
    """Functions whose names begin with is_ accept any value; the others raise their own errors for it."""

    THINGS = makers.ODD_VALUES + (
        ((),), ((), (), ()), ((), []), ([], ()), ((), {}), ("", ""), ((), ((),)), ((), (((0, 1),),)),
        ((), (((0, 1), ()),)), (((),), ()), tuple(range(1000)), [()] * 1000, {k: (k,) for k in range(300)},
        "x" * 2000, (((1, 1, 1),),) * 999,
    )

    def test_whether(self):
        for _, name, _ in CALLS:
            if name.startswith("is_"):
                call = getattr(numbers, name, None) or getattr(quotients, name)
                for thing in self.THINGS:
                    self.assertIn(kept(call, thing), (True, False))
                    self.assertIs(type(call(thing=thing)), bool)

    def test_raised(self):
        for thing in self.THINGS:
            if not numbers.is_number(thing):
                self.assertBad(BadNumber, thing, numbers.integer_of, thing)
                for call in (numbers.added, numbers.taken, numbers.times, numbers.over):
                    self.assertBad(BadNumber, thing, call, thing, ONE)
                    self.assertBad(BadNumber, thing, call, one=ONE, other=thing)
            if not quotients.is_quotient(thing):
                self.assertBad(BadQuotient, thing, quotients.slope, thing)
                self.assertBad(BadQuotient, thing, quotients.row_far, thing, 3)
                self.assertBad(BadQuotient, thing, quotients.row_at, thing, (0, 1), 3)
                for call in (quotients.plus, quotients.product):
                    self.assertBad(BadQuotient, thing, call, thing, LINE)
                    self.assertBad(BadQuotient, thing, call, one=LINE, other=thing)
            self.assertBad(BadPoint, thing, quotients.row_at, LINE, thing, 3)

    def test_results_are_arguments(self):
        source = random.Random(3)
        for _ in range(20):
            one = makers.quotient(source, source.randint(-1, 3), [source.randint(1, 3)] * 2, 2)
            other = makers.quotient(source, source.randint(-1, 3), [source.randint(1, 3)], 2)
            result = kept(quotients.product, one, quotients.slope(quotients.plus(one, other)))
            self.assertTrue(quotients.is_quotient(result))
            self.assertTrue(is_exact(result))
            for number in quotients.row_far(result, 5)[1]:
                self.assertTrue(same(numbers.added(number, ()), number))


if __name__ == "__main__":
    unittest.main()
