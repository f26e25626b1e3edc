"""1.1: the errors of numbers.py and which of several comes first."""

import unittest

import makers
from same import SameCase
from test_number_kinds import WRONG
from twiceslope.errors import BadNumber
from twiceslope.numbers import added, fraction, integer_of, over, root_of, taken, times

ONE = ((1, 1, 1),)
CALLS = (added, taken, times, over)


class FirstWrongTest(SameCase):
    def test_one(self):
        for call in CALLS:
            for thing in WRONG:
                self.assertBad(BadNumber, thing, call, thing, ONE)

    def test_other(self):
        for call in CALLS:
            for thing in WRONG:
                self.assertBad(BadNumber, thing, call, ONE, thing)
                self.assertBad(BadNumber, thing, call, (), thing)

    def test_both(self):
        for call in CALLS:
            for thing in WRONG:
                self.assertBad(BadNumber, thing, call, thing, [thing])
                self.assertBad(BadNumber, [thing], call, [thing], thing)
                self.assertBad(BadNumber, thing, call, other=None, one=thing)

    def test_integer_of(self):
        for thing in WRONG:
            self.assertBad(BadNumber, thing, integer_of, thing)
            self.assertBad(BadNumber, thing, integer_of, number=thing)


class OverTest(SameCase):
    def test_by_zero(self):
        for one in ((), ONE, ((2, 1, 1), (3, 1, 1))):
            self.assertBad(BadNumber, (), over, one, ())

    def test_one_comes_ahead_of_zero(self):
        for thing in WRONG:
            self.assertBad(BadNumber, thing, over, thing, ())

    def test_the_others_take_zero(self):
        for call in (added, taken, times):
            call(ONE, ())


class PairTest(SameCase):
    def test_any_values(self):
        for call in (fraction, root_of):
            for thing in makers.ODD_VALUES:
                if type(thing) is not int:
                    self.assertBad(BadNumber, (thing, 1), call, thing, 1)
                    self.assertBad(BadNumber, (1, thing), call, 1, thing)
                    self.assertBad(BadNumber, (0, thing), call, 0, thing)
                    self.assertBad(BadNumber, (thing, 0), call, thing, 0)
                    self.assertBad(BadNumber, (thing, thing), call, bottom=thing, top=thing)

    def test_bools(self):
        for call in (fraction, root_of):
            for pair in ((True, 1), (1, True), (False, 1), (1, False), (False, False), (True, 0), (0, False)):
                self.assertBad(BadNumber, pair, call, pair[0], pair[1])

    def test_bottom_zero(self):
        for call in (fraction, root_of):
            for top in (-1, 0, 1, 4, 10 ** 4):
                self.assertBad(BadNumber, (top, 0), call, top, 0)

    def test_numbers_are_no_integers(self):
        for call in (fraction, root_of):
            self.assertBad(BadNumber, (ONE, ONE), call, ONE, ONE)
            self.assertBad(BadNumber, ((), 1), call, (), 1)


if __name__ == "__main__":
    unittest.main()
