"""Which integers are passed."""

from fewersteps.errors import InvalidNumber

MAX_INTEGER = 10 ** 60 - 1


def is_between(value, low, high):
    """Whether the value is an integer from low to high; True and False are none."""
    return isinstance(value, int) and not isinstance(value, bool) and low <= value <= high


def is_integer(value):
    """Whether the value is an integer with at most sixty digits."""
    return is_between(value, -MAX_INTEGER, MAX_INTEGER)


def check_number(value, low, high):
    """Raise InvalidNumber if the value is not an integer from low to high."""
    if not is_between(value, low, high):
        raise InvalidNumber(value)


def check_count(value):
    """Raise InvalidNumber if the value is not an integer of at least 0."""
    check_number(value, 0, MAX_INTEGER)
