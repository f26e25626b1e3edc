"""0.2: names of parameters, kinds of results, arguments that stay as they are, equal results of equal calls."""

import inspect
import random
import re
import unittest
from pathlib import Path

import makers
from same import SameCase, is_exact, kept, same
from twiceslope import changes, forms, named, numbers, points, putin, quotients, rows, slopes, verdict
from twiceslope.errors import BadAnswer, BadChange, BadDegree, BadEquation, BadForm, BadFraction, BadNumber, BadPlace
from twiceslope.errors import BadPoint, BadQuotient, BadWriting

DOCUMENT = Path(__file__).resolve().parent.parent.parent / "shared" / "DOC.md"
ONE, ROOT = ((1, 1, 1),), ((-6, 1, 2), (1, -3, 1))
HALF = ((1, 1, 2),)
LINE = (((), ONE), (((-1, 2), (ROOT, HALF)), ((1, 1), ((), HALF))))
OTHER = ((HALF,), (((1, 1), (ONE,)),))
X, UNIT, ZERO = (((), ONE), ()), ((ONE,), ()), ((), ())
GROWING, FALLING = (UNIT, (ONE,)), (((((1, -1, 1),),), ()), (HALF,))
# F. Bessel's equation with 1/3, and one whose answers are e to the power of 4 roots of x, and of its negative.
WAVE = ((((1, -1, 1),),), (((0, 1), ((), ((1, -5, 36),))),))
ROUGH = ((), (((0, 1), (ONE, ((1, -3, 16),))),))
# y'' + y' / x + y = 0, and y'' + y' / x = 0 with the answer 1, which the root of x leads to.
OVER_X = ((), (((0, 1), (ONE,)),))
ROOT_OF_X = (((), (((0, 1), (HALF,)),)), (ROOT,))
POWERS, INTEGRAL = (((-1, 2), ROOT), ((1, 1), HALF)), (((), ONE), (((0, 1), (ROOT,)),))

# Each function of the interface: its parameters in their order, with arguments.
CALLS = (
    (numbers, "is_number", (("thing", ROOT),)),
    (numbers, "is_fraction", (("thing", HALF),)),
    (numbers, "fraction", (("top", 6), ("bottom", -4))),
    (numbers, "added", (("one", ROOT), ("other", HALF))),
    (numbers, "taken", (("one", ROOT), ("other", HALF))),
    (numbers, "times", (("one", ROOT), ("other", HALF))),
    (numbers, "over", (("one", HALF), ("other", ROOT))),
    (numbers, "root_of", (("top", -8), ("bottom", 9))),
    (numbers, "integer_of", (("number", ((1, -7, 1),)),)),
    (quotients, "is_polynomial", (("thing", ((), ROOT)),)),
    (quotients, "is_quotient", (("thing", LINE),)),
    (quotients, "is_equation", (("thing", OTHER),)),
    (quotients, "plus", (("one", LINE), ("other", OTHER))),
    (quotients, "product", (("one", LINE), ("other", OTHER))),
    (quotients, "slope", (("quotient", LINE),)),
    (quotients, "row_at", (("quotient", LINE), ("c", (2, 3)), ("many", 4))),
    (quotients, "row_far", (("quotient", LINE), ("many", 4))),
    (points, "orders", (("r", WAVE),)),
    (points, "far_order", (("r", WAVE),)),
    (points, "exponents_at", (("r", WAVE), ("c", (0, 1)), ("m", 4))),
    (points, "exponents_far", (("r", WAVE), ("m", 4))),
    (slopes, "choices_at", (("r", WAVE), ("c", (0, 1)))),
    (slopes, "choices_far", (("r", WAVE),)),
    (slopes, "lines", (("r", WAVE),)),
    (slopes, "is_answer", (("r", UNIT), ("thing", GROWING))),
    (slopes, "judge_slopes", (("r", WAVE),)),
    (slopes, "slopes_hold", (("r", UNIT), ("thing", ("answer",) + FALLING))),
    (slopes, "many_answers", (("r", UNIT),)),
    (slopes, "answers", (("r", UNIT),)),
    (slopes, "are_alike", (("r", UNIT), ("one", GROWING), ("other", FALLING))),
    (forms, "row_of_products", (("r", WAVE), ("m", 2), ("u", LINE))),
    (forms, "is_form", (("r", ROUGH), ("m", 4), ("thing", X))),
    (forms, "bounds", (("r", WAVE), ("m", 2))),
    (forms, "equation", (("r", ((ONE,), (((0, 1), (ONE,)),))), ("m", 2), ("j", 1))),
    (forms, "judge_forms", (("r", ROUGH), ("m", 4))),
    (forms, "forms_hold", (("r", ROUGH), ("m", 4), ("thing", ("forms", (X,), ())))),
    (forms, "many_forms", (("r", ROUGH), ("m", 4))),
    (verdict, "verdict", (("r", ROUGH),)),
    (verdict, "judge_verdict", (("r", ROUGH),)),
    (verdict, "verdict_holds", (("r", ROUGH), ("thing", ("square", ("odd", "far"), ("forms", (X,), ()))))),
    (verdict, "has_answers", (("r", ROUGH),)),
    (verdict, "exchanges", (("r", ROUGH),)),
    (putin, "writing", (("quotient", LINE),)),
    (putin, "quotient_of", (("powers", POWERS), ("g", INTEGRAL))),
    (putin, "product_of", (("r", UNIT), ("one", GROWING), ("other", FALLING))),
    (putin, "stays", (("r", UNIT), ("one", GROWING), ("other", FALLING))),
    (putin, "slopes_equation", (("r", ROUGH), ("m", 4), ("u", X))),
    (putin, "equation_holds", (("r", UNIT), ("m", 2), ("thing", (((((1, -1, 1),),), ()), ZERO, UNIT)))),
    (putin, "square_number", (("r", ROUGH), ("u", X))),
    (putin, "square_equation", (("r", ROUGH), ("u", X))),
    (rows, "answer_row", (("r", WAVE), ("c", (2, 3)), ("first", ROOT), ("second", HALF), ("many", 5))),
    (rows, "row_of_answer", (("r", UNIT), ("answer", FALLING), ("c", (2, 3)), ("many", 5))),
    (changes, "led", (("p", OVER_X), ("q", UNIT))),
    (changes, "is_answer_of", (("p", OVER_X), ("q", ZERO), ("thing", (ZERO, (ROOT,))))),
    (changes, "carried", (("p", OVER_X), ("q", ZERO), ("answer", ROOT_OF_X))),
    (changes, "changed", (("r", ROUGH), ("change", (1, 2, 3, -1)))),
    (changes, "changed_form", (("r", ROUGH), ("m", 4), ("u", X), ("change", (1, 2, 3, -1)))),
    (changes, "changed_answer", (("r", UNIT), ("answer", FALLING), ("change", (1, 2, 3, -1)))),
    (named, "power_equation", (("n", -3),)),
    (named, "bessel", (("n", (1, 3)),)),
    (named, "weber", (("a", (-1, 3)),)),
    (named, "whittaker", (("k", (1, 3)), ("m", (5, 6)))),
    (named, "three_points", (("l", (1, 2)), ("m", (1, 3)), ("n", (-7, 4)))),
    (named, "power_verdict", (("n", -3),)),
    (named, "bessel_verdict", (("n", (1, 3)),)),
    (named, "weber_verdict", (("a", (-1, 3)),)),
    (named, "whittaker_verdict", (("k", (1, 3)), ("m", (5, 6)))),
    (named, "three_points_verdict", (("l", (1, 2)), ("m", (1, 3)), ("n", (-7, 4)))),
)
# What the functions that tell whether something is so have to tell of these arguments, if it is not True.
TOLD = {"are_alike": False}
# Functions whose results hold strings or None, too.
WORDS = (
    "judge_slopes", "many_answers", "judge_forms", "verdict", "judge_verdict", "exchanges", "power_verdict",
    "bessel_verdict", "weber_verdict", "whittaker_verdict", "three_points_verdict",
)
# The error that each place raises, but `thing` and `many`.
ERRORS = {
    "r": BadEquation, "p": BadEquation, "q": BadEquation, "c": BadPoint, "m": BadDegree, "j": BadPlace,
    "one": BadAnswer, "other": BadAnswer, "answer": BadAnswer, "first": BadNumber, "second": BadNumber,
    "change": BadChange, "quotient": BadQuotient, "powers": BadWriting, "g": BadWriting,
}


def has_words(result):
    """Whether a result consists of tuples, integers, strings and None."""
    if isinstance(result, tuple):
        return all(has_words(part) for part in result)
    return result is None or type(result) in (int, str)


def error_of(module, place):
    """The error that a wrong value in a place raises."""
    if module is named:
        return BadFraction
    if place == "u":
        return BadQuotient if module is forms else BadForm
    return ERRORS[place]


def is_right(error, thing):
    """Whether a value of the list below is right where an error is raised for wrong ones."""
    if error is BadEquation:
        return quotients.is_equation(thing)
    if error is BadQuotient:
        return quotients.is_quotient(thing)
    return error is BadNumber and numbers.is_number(thing)


class CallsTest(SameCase):
    def test_by_position_and_by_name(self):
        for module, name, told in CALLS:
            call = getattr(module, name)
            first = kept(call, *[worth for _, worth in told])
            self.assertSame(kept(call, **dict(told)), first)
            self.assertSame(kept(call, **dict(reversed(told))), first)

    def test_parameters(self):
        for module, name, told in CALLS:
            parameters = inspect.signature(getattr(module, name)).parameters
            self.assertEqual(list(parameters), [word for word, _ in told])

    def test_defined_where_they_are_listed(self):
        for module, name, _ in CALLS:
            self.assertEqual(getattr(module, name).__module__, module.__name__)

    @unittest.skipUnless(DOCUMENT.exists(), "the document is not beside the project")
    def test_all_names_of_the_interface(self):
        """Each function that the document lists is among these calls, with the parameters that it lists."""
        text = DOCUMENT.read_text()
        found = {}
        for part in text.split("\n## twiceslope/")[1:]:
            module = part[:part.index(".py")]
            listed = part.split("\nExamples:")[0].split("\n# ")[0]
            for line in listed.split("\n"):
                if line.startswith("- `") and "class " not in line:
                    for name, words in re.findall(r"`(\w+)\(([\w, ]*)\)`", line):
                        if not name.startswith("Bad"):
                            found[(module, name)] = words.split(", ")
        told = {(module.__name__.split(".")[1], name): [word for word, _ in more] for module, name, more in CALLS}
        self.assertEqual(found, told)

    def test_kinds_of_results(self):
        for module, name, told in CALLS:
            result = getattr(module, name)(**dict(told))
            if name.startswith(("is_", "are_", "has_")) or name.endswith(("_hold", "_holds")):
                self.assertIs(result, TOLD.get(name, True))
            elif name in WORDS:
                self.assertTrue(has_words(result))
            else:
                self.assertTrue(is_exact(result))

    def test_first_position_counts(self):
        self.assertTells(((-6, 1, 2), (1, -7, 2)), numbers.taken, ROOT, HALF)
        self.assertTells(((-6, -1, 2), (1, 7, 2)), numbers.taken, other=ROOT, one=HALF)


class AnyValueTest(SameCase):
    """Functions whose names begin with is_ accept any value; the others raise their own errors for it."""

    THINGS = makers.ODD_VALUES + (
        ((),), ((), (), ()), ((), []), ([], ()), ((), {}), ("", ""), ((), ((),)), ((), (((0, 1),),)),
        ((), (((0, 1), ()),)), (((),), ()), tuple(range(1000)), [()] * 1000, {k: (k,) for k in range(300)},
        "x" * 2000, (((1, 1, 1),),) * 999,
    )

    def test_whether(self):
        for module, name, told in CALLS:
            if told[-1][0] == "thing":
                call, more = getattr(module, name), dict(told[:-1])
                for thing in self.THINGS:
                    self.assertIn(kept(call, thing=thing, **more), (True, False))
                    self.assertIs(type(call(*more.values(), thing)), bool)

    def test_raised(self):
        for thing in self.THINGS:
            if not numbers.is_number(thing):
                self.assertBad(BadNumber, thing, numbers.integer_of, thing)
                for call in (numbers.added, numbers.taken, numbers.times, numbers.over):
                    self.assertBad(BadNumber, thing, call, thing, ONE)
                    self.assertBad(BadNumber, thing, call, one=ONE, other=thing)
            if not quotients.is_quotient(thing):
                self.assertBad(BadQuotient, thing, quotients.slope, thing)
                self.assertBad(BadQuotient, thing, quotients.row_far, thing, 3)
                self.assertBad(BadQuotient, thing, quotients.row_at, thing, (0, 1), 3)
                for call in (quotients.plus, quotients.product):
                    self.assertBad(BadQuotient, thing, call, thing, LINE)
                    self.assertBad(BadQuotient, thing, call, one=LINE, other=thing)
            self.assertBad(BadPoint, thing, quotients.row_at, LINE, thing, 3)

    def test_raised_by_each_place(self):
        """Any value in each place of the functions of parts 3 to 10, but as `thing`, raises the place's own error."""
        count = 0
        for module, name, told in CALLS:
            for place, _ in told if module not in (numbers, quotients) else ():
                for thing in self.THINGS if place not in ("thing", "many") else ():
                    error = error_of(module, place)
                    if not is_right(error, thing):
                        given = dict(told)
                        given[place] = thing
                        bad = (given["powers"], given["g"]) if error is BadWriting else thing
                        self.assertBadCall(error, bad, getattr(module, name), given)
                        count += 1
        self.assertGreater(count, 3000)

    def assertBadCall(self, error, thing, call, given):
        with self.assertRaises(error) as caught:
            call(**given)
        self.assertIs(type(caught.exception), error)
        self.assertSame(caught.exception.thing, thing)
        with self.assertRaises(error):
            call(*given.values())

    def test_results_are_arguments(self):
        source = random.Random(3)
        for _ in range(20):
            one = makers.quotient(source, source.randint(-1, 3), [source.randint(1, 3)] * 2, 2)
            other = makers.quotient(source, source.randint(-1, 3), [source.randint(1, 3)], 2)
            result = kept(quotients.product, one, quotients.slope(quotients.plus(one, other)))
            self.assertTrue(quotients.is_quotient(result))
            self.assertTrue(is_exact(result))
            for number in quotients.row_far(result, 5)[1]:
                self.assertTrue(same(numbers.added(number, ()), number))


if __name__ == "__main__":
    unittest.main()
