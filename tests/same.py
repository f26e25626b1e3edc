"""Comparisons and checks that the tests share."""

import copy
import unittest

from twiceslope.errors import SlopeError


def same(one, other):
    """Whether two values are equal and of the same kinds throughout: True is not 1, a list is not a tuple."""
    if type(one) is not type(other):
        return False
    if isinstance(one, (tuple, list)):
        return len(one) == len(other) and all(same(a, b) for a, b in zip(one, other))
    if isinstance(one, dict):
        return same(list(one.items()), list(other.items()))
    return one == other


def is_exact(thing):
    """Whether a result consists of tuples and integers alone."""
    if isinstance(thing, tuple):
        return all(is_exact(part) for part in thing)
    return type(thing) is int


def kept(call, *args, **more):
    """The result of a call; fails if the call changes an argument, or if a second call tells something else."""
    before = copy.deepcopy((args, more))
    result = call(*args, **more)
    if not same(before, (args, more)):
        raise AssertionError(f"{call.__name__} changed an argument")
    if not same(result, call(*args, **more)):
        raise AssertionError(f"{call.__name__} told two results")
    return result


class SameCase(unittest.TestCase):
    """A test case that compares kinds, too."""

    def assertSame(self, one, other):
        self.assertTrue(same(one, other), f"{one!r} is not the same as {other!r}")

    def assertTells(self, result, call, *args, **more):
        """The call returns just this result."""
        self.assertSame(kept(call, *args, **more), result)

    def assertBad(self, error, thing, call, *args, **more):
        """The call raises just this error with just this thing, twice, and changes no argument."""
        before = copy.deepcopy((args, more))
        for _ in range(2):
            with self.assertRaises(SlopeError) as caught:
                call(*args, **more)
            self.assertIs(type(caught.exception), error)
            self.assertSame(caught.exception.thing, thing)
            self.assertSame((args, more), before)
