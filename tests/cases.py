"""What the tests share: looking at errors, and at values that are not to be changed."""

import copy
import unittest


class Case(unittest.TestCase):
    def refused(self, error, call, *given, keeps=None, **named):
        """The call raises just this error, which keeps this pair of an attribute and its value."""
        with self.assertRaises(error) as caught:
            call(*given, **named)
        self.assertIs(type(caught.exception), error, (given, named))
        if keeps is not None:
            value = getattr(caught.exception, keeps[0])
            self.assertTrue(type(value) is type(keeps[1]) and value == keeps[1], (value, keeps))

    def same(self, value, expected):
        """The values are equal, with dicts in the same order, and True is not 1."""
        self.assertEqual(repr(value), repr(expected))

    def unchanged(self, call, *given):
        """The call returns the same twice, and changes none of its arguments."""
        before = copy.deepcopy(given)
        self.same(call(*given), call(*given))
        self.assertEqual(before, given)


def spoil(value):
    """Change every dict and list in the value."""
    if isinstance(value, dict):
        for inner in list(value.values()):
            spoil(inner)
        value.clear()
        value["spoiled"] = 0
    elif isinstance(value, (list, tuple)):
        for inner in value:
            spoil(inner)
