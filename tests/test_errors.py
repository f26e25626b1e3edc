"""0.2 and twiceslope/errors.py: the error classes and what they carry."""

import copy
import inspect
import unittest

from makers import ODD_VALUES
from same import SameCase, same
from twiceslope import errors
from twiceslope.errors import (
    BadAnswer, BadChange, BadDegree, BadEquation, BadForm, BadFraction, BadNumber, BadPlace, BadPoint, BadQuotient,
    BadWriting, SlopeError,
)

CLASSES = (
    BadNumber, BadQuotient, BadEquation, BadPoint, BadAnswer, BadDegree, BadPlace, BadForm, BadWriting, BadChange,
    BadFraction,
)
NAMES = (
    "BadNumber", "BadQuotient", "BadEquation", "BadPoint", "BadAnswer", "BadDegree", "BadPlace", "BadForm",
    "BadWriting", "BadChange", "BadFraction",
)
THINGS = ODD_VALUES + (0, 1, -1, (), ((), ()), ((1, 3, 2),), [(), [1, True]], (1, (2, [3, {"a": (True, None)}])))


class ErrorsTest(SameCase):
    def test_names_and_bases(self):
        self.assertEqual(tuple(one.__name__ for one in CLASSES), NAMES)
        self.assertEqual(SlopeError.__bases__, (Exception,))
        for one in CLASSES:
            self.assertEqual(one.__bases__, (SlopeError,))
            self.assertEqual(one.__module__, "twiceslope.errors")

    def test_no_other_class(self):
        found = [name for name, one in vars(errors).items() if inspect.isclass(one)]
        self.assertEqual(sorted(found), sorted(NAMES + ("SlopeError",)))

    def test_defined_in_the_class_itself(self):
        for one in CLASSES + (SlopeError,):
            self.assertIn("__init__", vars(one))

    def test_made_by_position(self):
        for one in CLASSES + (SlopeError,):
            for thing in THINGS:
                self.assertSame(one(thing).thing, thing)

    def test_made_by_name(self):
        for one in CLASSES + (SlopeError,):
            for thing in THINGS:
                self.assertSame(one(thing=thing).thing, thing)

    def test_the_thing_is_needed(self):
        for one in CLASSES:
            with self.assertRaises(TypeError):
                one()

    def test_things_are_not_changed(self):
        for one in CLASSES:
            for thing in THINGS:
                before = copy.deepcopy(thing)
                error = one(thing)
                self.assertSame(thing, before)
                self.assertIs(error.thing, thing)

    def test_caught_by_its_own_class(self):
        for one in CLASSES + (SlopeError,):
            for thing in (True, 1, [1], (1,)):
                try:
                    raise one(thing)
                except one as error:
                    self.assertIs(type(error), one)
                    self.assertSame(error.thing, thing)

    def test_caught_as_slope_error(self):
        for one in CLASSES:
            try:
                raise one(thing=((), [True]))
            except SlopeError as error:
                self.assertIs(type(error), one)
                self.assertSame(error.thing, ((), [True]))

    def test_not_caught_by_another_class(self):
        for one in CLASSES:
            for other in CLASSES:
                self.assertEqual(issubclass(one, other), one is other)
            for builtin in (ValueError, TypeError, LookupError, ArithmeticError):
                self.assertFalse(issubclass(one, builtin))

    def test_each_object_has_its_own_thing(self):
        first, second = BadNumber(1), BadNumber(2)
        self.assertEqual((first.thing, second.thing), (1, 2))

    def test_equality_raises_nothing(self):
        self.assertIs(BadNumber(1) == [], False)
        self.assertIs(BadNumber(1) != BadPoint(1), True)


class SameTest(unittest.TestCase):
    """The comparison that the other tests rest on."""

    def test_kinds(self):
        self.assertTrue(same((1, [2, {"a": None}]), (1, [2, {"a": None}])))
        for one, other in ((True, 1), ((1,), [1]), ((0, (False,)), (0, (0,))), ({1: 2}, {True: 2}), ((1,), (1, 1))):
            self.assertFalse(same(one, other))


if __name__ == "__main__":
    unittest.main()
