"""Comparing values in the way of the document: True is not 1, a list is no tuple."""

import copy
import unittest


def same(one, other):
    """Return whether two plain values are equal, of like kinds throughout."""
    if type(one) is not type(other):
        return False
    if isinstance(one, (tuple, list)):
        return len(one) == len(other) and all(same(a, b) for a, b in zip(one, other))
    if isinstance(one, dict):
        return same(list(one.items()), list(other.items()))
    return one == other


class Case(unittest.TestCase):
    def assert_same(self, found, wanted, about=None):
        if not same(found, wanted):
            self.fail(f"{found!r} is not {wanted!r}" + ("" if about is None else f", of {about!r}"))

    def assert_raises(self, wanted, act, *given, **named):
        """Check that act raises an error of just the class of wanted, with the same fields."""
        with self.assertRaises(type(wanted)) as caught:
            act(*given, **named)
        self.assertIs(type(caught.exception), type(wanted))
        self.assert_same(vars(caught.exception), vars(wanted))
        return caught.exception

    def assert_untouched(self, act, *given):
        """Check that act answers alike twice and leaves as it is what it is handed."""
        before = copy.deepcopy(given)
        first = answer_of(act, given)
        self.assert_same(given, before)
        second = answer_of(act, given)
        self.assert_same(first, second)
        return first


def answer_of(act, given):
    try:
        return ("returned", act(*given))
    except ValueError as error:
        return ("raised", type(error).__name__, list(vars(error).items()))
