"""Checks that several test files need."""

import sys
import unittest

from samples_of_texts import with_one_character_otherwise
from seenrules.errors import InvalidText, TooMany


def lines_run(call, *arguments):
    """Return how many lines of the package a call runs, those of loops and comprehensions each time."""
    count = 0

    def trace(frame, event, argument):
        nonlocal count
        count += event == "line"
        return trace

    before = sys.gettrace()
    sys.settrace(trace)
    try:
        call(*arguments)
    finally:
        sys.settrace(before)
    return count


class CheckedCase(unittest.TestCase):
    """A test case with checks for exceptions and for truth values."""

    def assert_raises_holding(self, error_class, value, call, *arguments, **named):
        """Check that a call raises just this class, its field holding the very object."""
        with self.assertRaises(error_class) as caught:
            call(*arguments, **named)
        self.assertIs(type(caught.exception), error_class)
        self.assertIs(caught.exception.value, value)

    def assert_all(self, expected, predicate, values):
        """Check that a predicate returns the very same of True and False for all values."""
        for value in values:
            with self.subTest(value=value):
                self.assertIs(predicate(value), expected)

    def assert_too_many(self, count, call, *arguments):
        """Check that a call raises TooMany with this count."""
        with self.assertRaises(TooMany) as caught:
            call(*arguments)
        self.assertEqual(caught.exception.count, count)
        self.assertIs(type(caught.exception.count), int)

    def assert_equality(self, one, other, expected):
        """Check whether two values are equal, asked either way."""
        self.assertIs(one == other, expected)
        self.assertIs(other == one, expected)
        self.assertIs(one != other, not expected)

    def assert_near_texts(self, text, is_text, parse):
        """Check that of the texts with one character otherwise just those that are texts are read."""
        self.assertTrue(is_text(text))
        for other in with_one_character_otherwise(text):
            with self.subTest(other):
                if is_text(other):
                    self.assertEqual(str(parse(other)), other)
                else:
                    self.assert_raises_holding(InvalidText, other, parse, other)
