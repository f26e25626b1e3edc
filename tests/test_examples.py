"""The examples of the document, word for word."""

import unittest
from pathlib import Path

from examples import run_text
from same import SameCase

NUMBERS = '''
>>> from twiceslope.numbers import fraction, integer_of, is_number, over, root_of, times
>>> ONE, TWO = ((1, 1, 1),), ((2, 1, 1),)
>>> [fraction(6, -4), fraction(0, 5), root_of(8, 9), root_of(-3, 4), root_of(4, 1), times(TWO, root_of(6, 1)), times(root_of(-2, 1), root_of(-3, 1)), over(ONE, ((1, 1, 1), (2, 1, 1)))]
[((1, -3, 2),), (), ((2, 2, 3),), ((-3, 1, 2),), ((1, 2, 1),), ((3, 2, 1),), ((6, -1, 1),), ((1, -1, 1), (2, 1, 1))]
>>> from twiceslope.numbers import integer_of, is_fraction, is_number
>>> [integer_of(((1, 3, 1),)), integer_of(((2, 1, 1),)), integer_of(()), is_number(((4, 1, 1),)), is_number(((1, 2, 4),)), is_fraction(((-1, 1, 2),))]
[3, None, 0, False, False, False]
>>> from twiceslope.numbers import over
>>> over(((1, 1, 1),), ())
raises BadNumber(())
'''

QUOTIENTS = '''
>>> from twiceslope.quotients import is_equation, plus, product, row_at, row_far, slope
>>> ONE = ((1, 1, 1),)
>>> ONE_OVER = ((), (((0, 1), (ONE,)),))
>>> SHIFTED = ((), (((1, 1), (ONE,)),))
>>> [product(ONE_OVER, SHIFTED), slope(ONE_OVER), row_at(ONE_OVER, (1, 1), 3), row_far(SHIFTED, 3), plus(ONE_OVER, (((), ONE), ())), is_equation((((-1, 1, 1),), ()))]
[((), (((0, 1), (((1, -1, 1),),)), ((1, 1), (((1, 1, 1),),)))), ((), (((0, 1), ((), ((1, -1, 1),))),)), (0, (((1, 1, 1),), ((1, -1, 1),), ((1, 1, 1),))), (-1, (((1, 1, 1),), ((1, 1, 1),), ((1, 1, 1),))), (((), ((1, 1, 1),)), (((0, 1), (((1, 1, 1),),)),)), False]
>>> from twiceslope.quotients import row_at
>>> row_at(((), ()), (2, 4), 3)
raises BadPoint((2, 4))
'''

POINTS = '''
>>> from twiceslope.points import exponents_at, exponents_far, far_order, orders
>>> BESSEL = ((((1, -1, 1),),), (((0, 1), ((), ((1, -5, 36),))),))
>>> [orders(BESSEL), far_order(BESSEL), exponents_at(BESSEL, (0, 1), 4), exponents_at(BESSEL, (0, 1), 6), exponents_far(BESSEL, 4)]
[(((0, 1), 2),), 0, (2,), (1, 3, 5), (0,)]
>>> from twiceslope.points import exponents_far, far_order, orders
>>> LINE = (((), ((1, 1, 1),)), ())
>>> [orders(LINE), far_order(LINE), exponents_far(LINE, 4), exponents_far(LINE, 6), far_order(((), ())), exponents_far(((), ()), 2)]
[(), -1, (-1,), (), 3, (0, 1, 2)]
'''

SLOPES = '''
>>> from twiceslope.slopes import choices_at, choices_far, is_answer, judge_slopes, lines, many_answers, slopes_hold
>>> ONE = ((1, 1, 1),)
>>> BELL = ((ONE, (), ONE), ())
>>> [choices_far(BELL), lines(BELL), many_answers(BELL), is_answer(BELL, ((((), ONE), ()), (ONE,))), judge_slopes((((), (), ONE), ())), judge_slopes((((), ONE), ()))]
[(((((), ((1, 1, 1),)), ()), ()), ((((), ((1, -1, 1),)), ()), ((1, -1, 1),))), (((((), ((1, 1, 1),)), ()), 0),), 'one', True, ('table', ('shut', 'shut')), ('odd', 'far')]
>>> from twiceslope.slopes import choices_at, lines, many_answers, slopes_hold
>>> TWO_OVER = ((), (((0, 1), ((), ((1, 2, 1),))),))
>>> [[e for part, e in choices_at(TWO_OVER, (0, 1))], [d for trunk, d in lines(TWO_OVER)], many_answers(TWO_OVER), many_answers(((), ())), many_answers(((((1, 1, 1),),), ())), slopes_hold(((((1, 1, 1),),), ()), ('answer', ((((1, -1, 1),),), ()), (((1, 5, 1),),)))]
[[((1, 2, 1),), ((1, -1, 1),)], [0, 3, 0], 'endless', 'endless', 'two', True]
'''

FORMS = '''
>>> from twiceslope.forms import bounds, forms_hold, is_form, many_forms, row_of_products
>>> ONE, X = ((((1, 1, 1),),), ()), (((), ((1, 1, 1),)), ())
>>> ROOT = ((), (((0, 1), (((1, 1, 1),), ((1, -3, 16),))),))
>>> [row_of_products(ONE, 2, ONE), is_form(ROOT, 4, X), is_form(ROOT, 4, ONE), bounds(ROOT, 4), forms_hold(ROOT, 4, ('forms', (X,), ())), many_forms(ROOT, 4)]
[(((((1, 1, 1),),), ()), ((), ()), ((((1, -2, 1),),), ()), ((), ())), True, False, ((((0, 1), 1),), 0), True, 1]
>>> from twiceslope.forms import bounds, equation, judge_forms
>>> ONE, X = ((((1, 1, 1),),), ()), (((), ((1, 1, 1),)), ())
>>> MORE = ((((1, 1, 1),),), (((0, 1), (((1, 1, 1),),)),))
>>> [judge_forms(X, 4), judge_forms(X, 6), bounds(X, 6), equation(MORE, 2, 0), equation(MORE, 2, 1), judge_forms(MORE, 2)]
[('room', -1), ('point', 'far'), None, ((),), (((1, 2, 1),),), ('none', (1,))]
'''

VERDICTS = '''
>>> from twiceslope.verdict import exchanges, has_answers, verdict
>>> LINE, ZERO = (((), ((1, 1, 1),)), ()), ((), ())
>>> ROOT = ((), (((0, 1), (((1, 1, 1),), ((1, -3, 16),))),))
>>> FOUR = ((), (((0, 1), (((1, -3, 16),), ((1, -3, 16),))), ((1, 1), (((1, 3, 16),), ((1, -2, 9),)))))
>>> EIGHT = ((), (((0, 1), (((1, -3, 16),), ((1, -3, 16),))), ((1, 1), (((1, 3, 16),), ((1, -3, 16),)))))
>>> [verdict(LINE), verdict(ZERO), verdict(ROOT), verdict(FOUR), verdict(EIGHT), exchanges(FOUR), exchanges(EIGHT), exchanges(ROOT), has_answers(LINE), has_answers(ROOT)]
['nothing', 'quotient', 'square', 'four faces', 'eight', 24, 8, None, False, True]
>>> from twiceslope.verdict import judge_verdict
>>> LINE, ZERO = (((), ((1, 1, 1),)), ()), ((), ())
>>> judge_verdict(LINE)
('nothing', ('odd', 'far'), ('room', -1), ('point', 'far'), ('room', -2), ('room', -3))
>>> from twiceslope.verdict import verdict_holds
>>> LINE, ZERO = (((), ((1, 1, 1),)), ()), ((), ())
>>> ROOT = ((), (((0, 1), (((1, 1, 1),), ((1, -3, 16),))),))
>>> [verdict_holds(ROOT, ('square', ('odd', 'far'), ('forms', (LINE,), ()))), verdict_holds(ROOT, ('eight', ('odd', 'far'), ('forms', (LINE,), ())))]
[True, False]
'''

PUT_IN = '''
>>> from twiceslope.putin import product_of, quotient_of, stays, writing
>>> ONE, LESS, X = ((((1, 1, 1),),), ()), ((((1, -1, 1),),), ()), (((), ((1, 1, 1),)), ())
>>> T = (((), ((1, 2, 1),)), (((0, 1), (((1, 1, 3),), ((1, -3, 1),))),))
>>> [writing(T), quotient_of(writing(T)[0], writing(T)[1]) == T, stays(ONE, (ONE, (((1, 1, 1),),)), (LESS, (((1, 1, 1),),))), product_of(ONE, (ONE, (((1, 1, 1),),)), (LESS, (((1, 1, 1),),)))]
[((((0, 1), ((1, 1, 3),)),), (((), (), ((1, 1, 1),)), (((0, 1), (((1, 3, 1),),)),))), True, ((1, -2, 1),), ((((1, 1, 1),),), ())]
>>> from twiceslope.putin import equation_holds, slopes_equation, square_equation, square_number
>>> ONE, LESS, X = ((((1, 1, 1),),), ()), ((((1, -1, 1),),), ()), (((), ((1, 1, 1),)), ())
>>> ROOT = ((), (((0, 1), (((1, 1, 1),), ((1, -3, 16),))),))
>>> [slopes_equation(ROOT, 4, X)[3:], slopes_equation(ROOT, 4, X)[1], square_number(ROOT, X), square_equation(ROOT, X), equation_holds(ROOT, 4, slopes_equation(ROOT, 4, X))]
[(((((1, -1, 1),),), ()), (((), ((1, 1, 1),)), ())), ((), (((0, 1), (((1, 1, 1),), ((1, -1, 16),))),)), ((1, 16, 1),), (((((1, 1, 2),), ((1, -8, 1),)), ()), (((), ((1, -4, 1),)), ()), (((), (), ((1, 8, 1),)), ())), True]
'''

ROWS = '''
>>> from twiceslope.rows import answer_row, row_of_answer
>>> ONE = ((1, 1, 1),)
>>> [answer_row(((ONE,), ()), (0, 1), ONE, ONE, 4), answer_row((((), ONE), ()), (0, 1), ONE, (), 7)[3:], row_of_answer(((ONE, (), ONE), ()), ((((), ONE), ()), (ONE,)), (0, 1), 5)]
[(((1, 1, 1),), ((1, 1, 1),), ((1, 1, 2),), ((1, 1, 6),)), (((1, 1, 6),), (), (), ((1, 1, 180),)), (((1, 1, 1),), (), ((1, 1, 2),), (), ((1, 1, 8),))]
'''

CHANGES = '''
>>> from twiceslope.changes import carried, is_answer_of, led
>>> ONE, TWO, LESS, X, ZERO = ((((1, 1, 1),),), ()), ((((1, 2, 1),),), ()), ((((1, -1, 1),),), ()), (((), ((1, 1, 1),)), ()), ((), ())
>>> [led(((), (((0, 1), (((1, 1, 1),),)),)), ONE), led(TWO, ONE), is_answer_of(TWO, ONE, (LESS, (((1, 1, 1),),))), carried(TWO, ONE, (ZERO, (((1, 1, 1),),)))]
[((((1, -1, 1),),), (((0, 1), ((), ((1, -1, 4),))),)), ((), ()), True, (((((1, -1, 1),),), ()), (((1, 1, 1),),))]
>>> from twiceslope.changes import changed, changed_form
>>> ONE, TWO, LESS, X, ZERO = ((((1, 1, 1),),), ()), ((((1, 2, 1),),), ()), ((((1, -1, 1),),), ()), (((), ((1, 1, 1),)), ()), ((), ())
>>> ROOT = ((), (((0, 1), (((1, 1, 1),), ((1, -3, 16),))),))
>>> [changed(X, (0, 1, 1, 0)), changed(ROOT, (2, 0, 0, 1)), changed_form(ROOT, 4, X, (2, 0, 0, 1))]
[((), (((0, 1), ((), (), (), (), ((1, 1, 1),))),)), ((), (((0, 1), (((1, 2, 1),), ((1, -3, 16),))),)), (((), ((1, 2, 1),)), ())]
'''

NAMED = '''
>>> from twiceslope.named import bessel, bessel_verdict, power_equation, power_verdict, weber, weber_verdict
>>> [power_equation(1), power_verdict(1), power_verdict(-4), bessel((1, 3)), bessel_verdict((1, 3)), bessel_verdict((-5, 2)), weber((3, 2)), weber_verdict((3, 2)), weber_verdict((1, 1))]
[(((), ((1, 1, 1),)), ()), 'nothing', 'quotient', ((((1, -1, 1),),), (((0, 1), ((), ((1, -5, 36),))),)), 'nothing', 'quotient', ((((1, 3, 2),), (), ((1, 1, 4),)), ()), 'quotient', 'nothing']
>>> from twiceslope.named import three_points, whittaker, whittaker_verdict
>>> [whittaker((1, 1), (1, 2)), whittaker_verdict((1, 1), (1, 2)), whittaker_verdict((1, 3), (1, 5)), three_points((1, 2), (1, 3), (1, 3))]
[((((1, 1, 4),),), (((0, 1), (((1, -1, 1),),)),)), 'quotient', 'nothing', ((), (((0, 1), (((1, -3, 16),), ((1, -3, 16),))), ((1, 1), (((1, 3, 16),), ((1, -2, 9),)))))]
>>> from twiceslope.named import three_points_verdict
>>> [three_points_verdict((1, 3), (1, 3), (1, 3)), three_points_verdict((1, 2), (1, 2), (1, 7)), three_points_verdict((1, 2), (-1, 2), (3, 2)), three_points_verdict((1, 2), (1, 3), (2, 3)), three_points_verdict((1, 2), (1, 3), (1, 4)), three_points_verdict((2, 5), (2, 5), (2, 5)), three_points_verdict((1, 2), (1, 3), (1, 7))]
['quotient', 'square', 'eight', 'four faces', 'eight faces', 'twenty faces', 'nothing']
'''

DOCUMENT = Path(__file__).resolve().parent.parent.parent / "shared" / "DOC.md"


class ExamplesTest(SameCase):
    def test_numbers(self):
        run_text(self, NUMBERS)

    def test_quotients(self):
        run_text(self, QUOTIENTS)

    def test_points(self):
        run_text(self, POINTS)

    def test_slopes(self):
        run_text(self, SLOPES)

    def test_forms(self):
        run_text(self, FORMS)

    def test_verdicts(self):
        run_text(self, VERDICTS)

    def test_put_in(self):
        run_text(self, PUT_IN)

    def test_rows(self):
        run_text(self, ROWS)

    def test_changes(self):
        run_text(self, CHANGES)

    def test_named(self):
        run_text(self, NAMED)

    @unittest.skipUnless(DOCUMENT.exists(), "the document is not beside the project")
    def test_words(self):
        document = DOCUMENT.read_text()
        told = (NUMBERS, QUOTIENTS, POINTS, SLOPES, FORMS, VERDICTS, PUT_IN, ROWS, CHANGES, NAMED)
        self.assertEqual("".join(told), "".join(document.split("```")[1::2]))


if __name__ == "__main__":
    unittest.main()
