"""The examples of the document's parts 1 to 6, word for word."""

import unittest
from pathlib import Path

from examples import run_text
from same import SameCase

NUMBERS = '''
>>> from twiceslope.numbers import fraction, integer_of, is_number, over, root_of, times
>>> ONE, TWO = ((1, 1, 1),), ((2, 1, 1),)
>>> [fraction(6, -4), fraction(0, 5), root_of(8, 9), root_of(-3, 4), root_of(4, 1), times(TWO, root_of(6, 1)), times(root_of(-2, 1), root_of(-3, 1)), over(ONE, ((1, 1, 1), (2, 1, 1)))]
[((1, -3, 2),), (), ((2, 2, 3),), ((-3, 1, 2),), ((1, 2, 1),), ((3, 2, 1),), ((6, -1, 1),), ((1, -1, 1), (2, 1, 1))]
>>> from twiceslope.numbers import integer_of, is_fraction, is_number
>>> [integer_of(((1, 3, 1),)), integer_of(((2, 1, 1),)), integer_of(()), is_number(((4, 1, 1),)), is_number(((1, 2, 4),)), is_fraction(((-1, 1, 2),))]
[3, None, 0, False, False, False]
>>> from twiceslope.numbers import over
>>> over(((1, 1, 1),), ())
raises BadNumber(())
'''

QUOTIENTS = '''
>>> from twiceslope.quotients import is_equation, plus, product, row_at, row_far, slope
>>> ONE = ((1, 1, 1),)
>>> ONE_OVER = ((), (((0, 1), (ONE,)),))
>>> SHIFTED = ((), (((1, 1), (ONE,)),))
>>> [product(ONE_OVER, SHIFTED), slope(ONE_OVER), row_at(ONE_OVER, (1, 1), 3), row_far(SHIFTED, 3), plus(ONE_OVER, (((), ONE), ())), is_equation((((-1, 1, 1),), ()))]
[((), (((0, 1), (((1, -1, 1),),)), ((1, 1), (((1, 1, 1),),)))), ((), (((0, 1), ((), ((1, -1, 1),))),)), (0, (((1, 1, 1),), ((1, -1, 1),), ((1, 1, 1),))), (-1, (((1, 1, 1),), ((1, 1, 1),), ((1, 1, 1),))), (((), ((1, 1, 1),)), (((0, 1), (((1, 1, 1),),)),)), False]
>>> from twiceslope.quotients import row_at
>>> row_at(((), ()), (2, 4), 3)
raises BadPoint((2, 4))
'''

POINTS = '''
>>> from twiceslope.points import exponents_at, exponents_far, far_order, orders
>>> BESSEL = ((((1, -1, 1),),), (((0, 1), ((), ((1, -5, 36),))),))
>>> [orders(BESSEL), far_order(BESSEL), exponents_at(BESSEL, (0, 1), 4), exponents_at(BESSEL, (0, 1), 6), exponents_far(BESSEL, 4)]
[(((0, 1), 2),), 0, (2,), (1, 3, 5), (0,)]
>>> from twiceslope.points import exponents_far, far_order, orders
>>> LINE = (((), ((1, 1, 1),)), ())
>>> [orders(LINE), far_order(LINE), exponents_far(LINE, 4), exponents_far(LINE, 6), far_order(((), ())), exponents_far(((), ()), 2)]
[(), -1, (-1,), (), 3, (0, 1, 2)]
'''

SLOPES = '''
>>> from twiceslope.slopes import choices_at, choices_far, is_answer, judge_slopes, lines, many_answers, slopes_hold
>>> ONE = ((1, 1, 1),)
>>> BELL = ((ONE, (), ONE), ())
>>> [choices_far(BELL), lines(BELL), many_answers(BELL), is_answer(BELL, ((((), ONE), ()), (ONE,))), judge_slopes((((), (), ONE), ())), judge_slopes((((), ONE), ()))]
[(((((), ((1, 1, 1),)), ()), ()), ((((), ((1, -1, 1),)), ()), ((1, -1, 1),))), (((((), ((1, 1, 1),)), ()), 0),), 'one', True, ('table', ('shut', 'shut')), ('odd', 'far')]
>>> from twiceslope.slopes import choices_at, lines, many_answers, slopes_hold
>>> TWO_OVER = ((), (((0, 1), ((), ((1, 2, 1),))),))
>>> [[e for part, e in choices_at(TWO_OVER, (0, 1))], [d for trunk, d in lines(TWO_OVER)], many_answers(TWO_OVER), many_answers(((), ())), many_answers(((((1, 1, 1),),), ())), slopes_hold(((((1, 1, 1),),), ()), ('answer', ((((1, -1, 1),),), ()), (((1, 5, 1),),)))]
[[((1, 2, 1),), ((1, -1, 1),)], [0, 3, 0], 'endless', 'endless', 'two', True]
'''

FORMS = '''
>>> from twiceslope.forms import bounds, forms_hold, is_form, many_forms, row_of_products
>>> ONE, X = ((((1, 1, 1),),), ()), (((), ((1, 1, 1),)), ())
>>> ROOT = ((), (((0, 1), (((1, 1, 1),), ((1, -3, 16),))),))
>>> [row_of_products(ONE, 2, ONE), is_form(ROOT, 4, X), is_form(ROOT, 4, ONE), bounds(ROOT, 4), forms_hold(ROOT, 4, ('forms', (X,), ())), many_forms(ROOT, 4)]
[(((((1, 1, 1),),), ()), ((), ()), ((((1, -2, 1),),), ()), ((), ())), True, False, ((((0, 1), 1),), 0), True, 1]
>>> from twiceslope.forms import bounds, equation, judge_forms
>>> ONE, X = ((((1, 1, 1),),), ()), (((), ((1, 1, 1),)), ())
>>> MORE = ((((1, 1, 1),),), (((0, 1), (((1, 1, 1),),)),))
>>> [judge_forms(X, 4), judge_forms(X, 6), bounds(X, 6), equation(MORE, 2, 0), equation(MORE, 2, 1), judge_forms(MORE, 2)]
[('room', -1), ('point', 'far'), None, ((),), (((1, 2, 1),),), ('none', (1,))]
'''

VERDICTS = '''
>>> from twiceslope.verdict import exchanges, has_answers, verdict
>>> LINE, ZERO = (((), ((1, 1, 1),)), ()), ((), ())
>>> ROOT = ((), (((0, 1), (((1, 1, 1),), ((1, -3, 16),))),))
>>> FOUR = ((), (((0, 1), (((1, -3, 16),), ((1, -3, 16),))), ((1, 1), (((1, 3, 16),), ((1, -2, 9),)))))
>>> EIGHT = ((), (((0, 1), (((1, -3, 16),), ((1, -3, 16),))), ((1, 1), (((1, 3, 16),), ((1, -3, 16),)))))
>>> [verdict(LINE), verdict(ZERO), verdict(ROOT), verdict(FOUR), verdict(EIGHT), exchanges(FOUR), exchanges(EIGHT), exchanges(ROOT), has_answers(LINE), has_answers(ROOT)]
['nothing', 'quotient', 'square', 'four faces', 'eight', 24, 8, None, False, True]
>>> from twiceslope.verdict import judge_verdict
>>> LINE, ZERO = (((), ((1, 1, 1),)), ()), ((), ())
>>> judge_verdict(LINE)
('nothing', ('odd', 'far'), ('room', -1), ('point', 'far'), ('room', -2), ('room', -3))
>>> from twiceslope.verdict import verdict_holds
>>> LINE, ZERO = (((), ((1, 1, 1),)), ()), ((), ())
>>> ROOT = ((), (((0, 1), (((1, 1, 1),), ((1, -3, 16),))),))
>>> [verdict_holds(ROOT, ('square', ('odd', 'far'), ('forms', (LINE,), ()))), verdict_holds(ROOT, ('eight', ('odd', 'far'), ('forms', (LINE,), ())))]
[True, False]
'''

DOCUMENT = Path(__file__).resolve().parent.parent.parent / "shared" / "DOC.md"


class ExamplesTest(SameCase):
    def test_numbers(self):
        run_text(self, NUMBERS)

    def test_quotients(self):
        run_text(self, QUOTIENTS)

    def test_points(self):
        run_text(self, POINTS)

    def test_slopes(self):
        run_text(self, SLOPES)

    def test_forms(self):
        run_text(self, FORMS)

    def test_verdicts(self):
        run_text(self, VERDICTS)

    @unittest.skipUnless(DOCUMENT.exists(), "the document is not beside the project")
    def test_words(self):
        document = DOCUMENT.read_text()
        for text in (NUMBERS, QUOTIENTS, POINTS, SLOPES, FORMS, VERDICTS):
            self.assertIn("```" + text + "```", document)


if __name__ == "__main__":
    unittest.main()
