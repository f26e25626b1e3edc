"""The examples of the document's parts 1 and 2, word for word."""

import unittest
from pathlib import Path

from examples import run_text
from same import SameCase

NUMBERS = '''
>>> from twiceslope.numbers import fraction, integer_of, is_number, over, root_of, times
>>> ONE, TWO = ((1, 1, 1),), ((2, 1, 1),)
>>> [fraction(6, -4), fraction(0, 5), root_of(8, 9), root_of(-3, 4), root_of(4, 1), times(TWO, root_of(6, 1)), times(root_of(-2, 1), root_of(-3, 1)), over(ONE, ((1, 1, 1), (2, 1, 1)))]
[((1, -3, 2),), (), ((2, 2, 3),), ((-3, 1, 2),), ((1, 2, 1),), ((3, 2, 1),), ((6, -1, 1),), ((1, -1, 1), (2, 1, 1))]
>>> from twiceslope.numbers import integer_of, is_fraction, is_number
>>> [integer_of(((1, 3, 1),)), integer_of(((2, 1, 1),)), integer_of(()), is_number(((4, 1, 1),)), is_number(((1, 2, 4),)), is_fraction(((-1, 1, 2),))]
[3, None, 0, False, False, False]
>>> from twiceslope.numbers import over
>>> over(((1, 1, 1),), ())
raises BadNumber(())
'''

QUOTIENTS = '''
>>> from twiceslope.quotients import is_equation, plus, product, row_at, row_far, slope
>>> ONE = ((1, 1, 1),)
>>> ONE_OVER = ((), (((0, 1), (ONE,)),))
>>> SHIFTED = ((), (((1, 1), (ONE,)),))
>>> [product(ONE_OVER, SHIFTED), slope(ONE_OVER), row_at(ONE_OVER, (1, 1), 3), row_far(SHIFTED, 3), plus(ONE_OVER, (((), ONE), ())), is_equation((((-1, 1, 1),), ()))]
[((), (((0, 1), (((1, -1, 1),),)), ((1, 1), (((1, 1, 1),),)))), ((), (((0, 1), ((), ((1, -1, 1),))),)), (0, (((1, 1, 1),), ((1, -1, 1),), ((1, 1, 1),))), (-1, (((1, 1, 1),), ((1, 1, 1),), ((1, 1, 1),))), (((), ((1, 1, 1),)), (((0, 1), (((1, 1, 1),),)),)), False]
>>> from twiceslope.quotients import row_at
>>> row_at(((), ()), (2, 4), 3)
raises BadPoint((2, 4))
'''

DOCUMENT = Path(__file__).resolve().parent.parent.parent / "shared" / "DOC.md"


class ExamplesTest(SameCase):
    def test_numbers(self):
        run_text(self, NUMBERS)

    def test_quotients(self):
        run_text(self, QUOTIENTS)

    @unittest.skipUnless(DOCUMENT.exists(), "the document is not beside the project")
    def test_words(self):
        document = DOCUMENT.read_text()
        for text in (NUMBERS, QUOTIENTS):
            self.assertIn("```" + text + "```", document)


if __name__ == "__main__":
    unittest.main()
