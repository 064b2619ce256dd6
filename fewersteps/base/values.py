"""Which integers are passed."""

from fewersteps.errors import InvalidNumber


def is_between(value, low, high):
    """Whether the value is an integer from low to high; True and False are none."""
    return isinstance(value, int) and not isinstance(value, bool) and low <= value <= high


def check_number(value, low, high):
    """Raise InvalidNumber if the value is not an integer from low to high."""
    if not is_between(value, low, high):
        raise InvalidNumber(value)
