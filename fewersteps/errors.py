"""The errors of the package, and what they keep."""


class StepError(ValueError):
    """What is passed does not have the form that is asked for."""


class InvalidStreams(StepError):
    """A value is no streams."""


class InvalidProgram(StepError):
    """A value is no program, or places are not those of a right one."""


class InvalidContent(StepError):
    """A value is no content, or no filling."""


class InvalidBag(StepError):
    """A value is no bag."""


class InvalidRule(StepError):
    """A value is no rule."""


class InvalidWord(StepError):
    """A value is no word, no sign or no name."""


class InvalidOperation(StepError):
    """The values are right by themselves, but do not go with each other."""


class ParseError(StepError):
    """A text cannot be read; `at` is the index of what is wrong there, or None."""

    def __init__(self, at):
        self.at = at


class InvalidNumber(IndexError):
    """`given` is not an integer of those that are asked for."""

    def __init__(self, given):
        self.given = given


class UnknownName(KeyError):
    """There is nothing with the name `wanted`."""

    def __init__(self, wanted):
        self.wanted = wanted


class NothingToUndo(LookupError):
    """There are fewer changes than `many`."""

    def __init__(self, many):
        self.many = many


class TooMany(OverflowError):
    """There would be more than `limit`."""

    def __init__(self, limit):
        self.limit = limit


class Refused(ArithmeticError):
    """A change would break `claim`."""

    def __init__(self, claim):
        self.claim = claim
