"""The errors: what they derive from, and what they keep."""

import unittest

from fewersteps import errors


class TestErrors(unittest.TestCase):
    def test_bases(self):
        bases = {
            "StepError": ValueError,
            "InvalidStreams": errors.StepError,
            "InvalidProgram": errors.StepError,
            "InvalidContent": errors.StepError,
            "InvalidBag": errors.StepError,
            "InvalidRule": errors.StepError,
            "InvalidWord": errors.StepError,
            "InvalidOperation": errors.StepError,
            "ParseError": errors.StepError,
            "InvalidNumber": IndexError,
            "UnknownName": KeyError,
            "NothingToUndo": LookupError,
            "TooMany": OverflowError,
            "Refused": ArithmeticError,
        }
        for name, base in bases.items():
            self.assertEqual(getattr(errors, name).__bases__, (base,), name)
            self.assertEqual(getattr(errors, name).__module__, "fewersteps.errors")

    def test_what_is_kept(self):
        kept = {"ParseError": "at", "InvalidNumber": "given", "UnknownName": "wanted"}
        kept.update({"NothingToUndo": "many", "TooMany": "limit", "Refused": "claim"})
        for name, attribute in kept.items():
            for value in (None, 0, 41, 10 ** 99, True, "x", ("alike", "a", "b"), [1], {"a": 1}):
                with self.subTest(name=name, value=value):
                    error = getattr(errors, name)(value)
                    self.assertIs(getattr(error, attribute), value)

    def test_messages(self):
        for name in ("StepError", "InvalidStreams", "InvalidProgram", "InvalidContent", "InvalidBag"):
            self.assertEqual(str(getattr(errors, name)("a message")), "a message")
        for name in ("InvalidRule", "InvalidWord", "InvalidOperation"):
            self.assertEqual(str(getattr(errors, name)("a message")), "a message")

    def test_caught_as_built_in(self):
        with self.assertRaises(ValueError):
            raise errors.ParseError(3)
        with self.assertRaises(LookupError):
            raise errors.UnknownName("x")
        with self.assertRaises(LookupError):
            raise errors.InvalidNumber(1)
        with self.assertRaises(ArithmeticError):
            raise errors.TooMany(80)


if __name__ == "__main__":
    unittest.main()
