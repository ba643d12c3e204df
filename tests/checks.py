"""What the tests share: exact values, exact errors, untouched arguments, fresh results."""

import unittest
from copy import deepcopy


def spoil(value):
    """Change every list in the value, however deep it stands."""
    if isinstance(value, (list, tuple)):
        for part in value:
            spoil(part)
    if isinstance(value, list):
        value.append("spoiled")
        value.reverse()


class Checks(unittest.TestCase):
    """A test case that tells lists from tuples and True from 1."""

    def assert_is(self, got, wanted):
        """Equal, and of the same kinds all through, as their written forms tell."""
        self.assertEqual(repr(got), repr(wanted))

    def assert_raises(self, error, fields, call, *given):
        """The call raises exactly this error with exactly these fields, in order."""
        with self.assertRaises(error) as caught:
            call(*given)
        self.assertIs(type(caught.exception), error)
        self.assert_is(list(vars(caught.exception).values()), list(fields))

    def assert_clean(self, call, *given):
        """The call changes no argument, and spoiling its result changes nothing."""
        before = deepcopy(given)
        result = call(*given)
        self.assertEqual(given, before)
        kept = deepcopy(result)
        spoil(result)
        self.assertEqual(given, before)
        self.assert_is(call(*given), kept)
        self.assertEqual(given, before)
