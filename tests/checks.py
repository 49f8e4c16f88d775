"""Checks that several test files need."""

import unittest


class CheckedCase(unittest.TestCase):
    """A test case with checks for exceptions and for truth values."""

    def assert_raises_holding(self, error_class, value, call, *arguments, **named):
        """Check that a call raises just this class, its field holding the very object."""
        with self.assertRaises(error_class) as caught:
            call(*arguments, **named)
        self.assertIs(type(caught.exception), error_class)
        self.assertIs(caught.exception.value, value)

    def assert_all(self, expected, predicate, values):
        """Check that a predicate returns the very same of True and False for all values."""
        for value in values:
            with self.subTest(value=value):
                self.assertIs(predicate(value), expected)
