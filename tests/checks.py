"""What the tests share: exact values, exact errors, untouched arguments, fresh results, short times."""

import unittest
from copy import deepcopy
from time import process_time

# Far more than anything needs here, and far less than going through all of something takes.
SHORT = 10


def lists_in(value):
    """All lists in the value, however deep they stand."""
    if not isinstance(value, (list, tuple)):
        return []
    found = [value] if isinstance(value, list) else []
    for part in value:
        found += lists_in(part)
    return found


def spoil(value):
    """Change every list in the value, however deep it stands."""
    for part in lists_in(value):
        part.append("spoiled")
        part.reverse()


def plain(value):
    """The value with each object of the program told by its kind and its attributes."""
    if isinstance(value, (list, tuple)):
        return type(value)([plain(part) for part in value])
    if isinstance(value, dict):
        return {key: plain(part) for key, part in value.items()}
    if hasattr(value, "__dict__"):
        return (type(value).__name__, plain(vars(value)))
    return value


class Checks(unittest.TestCase):
    """A test case that tells lists from tuples and True from 1."""

    def assert_is(self, got, wanted):
        """Equal, and of the same kinds all through, as their written forms tell."""
        self.assertEqual(repr(got), repr(wanted))

    def assert_raises(self, error, fields, call, *given):
        """The call raises exactly this error with exactly these fields, in order."""
        with self.assertRaises(error) as caught:
            call(*given)
        self.assertIs(type(caught.exception), error)
        self.assert_is(list(vars(caught.exception).values()), list(fields))

    def assert_clean(self, call, *given):
        """The call changes no argument, its lists are new ones, and spoiling them changes nothing."""
        before = plain(deepcopy(given))
        result = call(*given)
        self.assert_is(plain(given), before)
        kept = deepcopy(result)
        found = lists_in(result)
        self.assertEqual(len({id(part) for part in found}), len(found))
        spoil(result)
        self.assert_is(plain(given), before)
        self.assert_is(call(*given), kept)
        self.assert_is(plain(given), before)

    def assert_short(self, call, *given):
        """What the call returns, found in a short time."""
        began = process_time()
        result = call(*given)
        self.assertLess(process_time() - began, SHORT)
        return result
