"""What an answer makes zero, P'' + 2 t P' + (t' + t t - r) P, cleared of its poles: nothing is checked here.

A frame of an equation r and a quotient t is the triple of the polynomials Q, 2 t Q and (t' + t t - r) Q for a
polynomial Q, the clearing, that makes all of them polynomials.
"""

from twiceslope.exact import ONE, from_fraction
from twiceslope.parts import all_poles, quotient_product, quotient_scaled, quotient_slope, quotient_sum
from twiceslope.parts import row_of_pole, row_product, row_sum, whole_slope


def clearing_of(powers):
    """The product of all (x - c) ** many for a list of pairs (c, many)."""
    clearing = (ONE,)
    for (top, bottom), many in powers:
        for _ in range(many):
            clearing = row_product((from_fraction(-top, bottom), ONE), clearing)
    return clearing


def table_clearing(r):
    """The clearing with which weights are told for an equation."""
    return clearing_of([(c, max(1, len(row) // 2)) for c, row in r[1]])


def remainder(r, t):
    """The quotient t' + t t - r."""
    return quotient_sum(quotient_sum(quotient_slope(t), quotient_product(t, t)), quotient_scaled(r, -1, 1))


def frame_of(t, rest, clearing):
    """The frame of t, with rest for t' + t t - r, for a clearing that suits both."""
    cleared = (clearing, ())
    twice = quotient_scaled(t, 2, 1)
    return (clearing, quotient_product(cleared, twice)[0], quotient_product(cleared, rest)[0])


def table_frame(r, t):
    """The frame of a trunk of an equation with which weights are told."""
    return frame_of(t, remainder(r, t), table_clearing(r))


def least_frame(r, t):
    """A frame of any quotient t."""
    rest = remainder(r, t)
    powers = [(c, max(len(row_of_pole(t, c)), len(row_of_pole(rest, c)))) for c in all_poles(t, rest)]
    return frame_of(t, rest, clearing_of(powers))


def image(frame, whole):
    """What a polynomial P gives with a frame."""
    clearing, twice, rest = frame
    first = whole_slope(whole)
    second = whole_slope(first)
    upper = row_sum(row_product(second, clearing), row_product(first, twice))
    return row_sum(upper, row_product(whole, rest))
