"""Pins: statements about programs with names."""

from fewersteps.algebra.bags import check_flow
from fewersteps.base.values import is_integer
from fewersteps.books.program import Program
from fewersteps.decide.relations import MAX_RELATED, is_relation, whole_bag


def is_pin(streams, programs, value):
    """Whether the value is a pin about names of these programs, a dict from names, for these streams."""
    if not isinstance(value, tuple) or len(value) != 3:
        return False
    if value[0] == "alike" or value[0] == "unlike":
        return _are_names(programs, value[1:])
    if value[0] == "relation":
        return _are_names(programs, value[1]) and _is_row(value[2], len(value[1]))
    if value[0] != "equal" or not _are_names(programs, value[1:2]):
        return False
    return isinstance(value[2], Program) and value[2].streams == streams


def _are_names(programs, value):
    """Whether the value is a tuple of one to six different names that are there."""
    if not isinstance(value, tuple) or not 1 <= len(value) <= MAX_RELATED:
        return False
    return all([isinstance(name, str) and name in programs for name in value]) and len(set(value)) == len(value)


def _is_row(value, many):
    """Whether the value is a tuple of so many integers."""
    return isinstance(value, tuple) and len(value) == many and all([is_integer(factor) for factor in value])


def names_of(pin):
    """The names that a pin is about."""
    if pin[0] == "relation":
        return pin[1]
    return pin[1:2] if pin[0] == "equal" else pin[1:]


def check_pin_flow(pin, programs):
    """Raise TooMany if there are too many short runs for looking whether the pin holds."""
    # Whether programs are alike is known by the heads, and no runs tell whether they are equal.
    if pin[0] == "relation":
        check_flow(whole_bag(_related(pin, programs)).flow)


def _related(pin, programs):
    """The programs of the names of a pin."""
    return tuple([programs[name] for name in names_of(pin)])


def is_held(pin, programs, heads):
    """Whether a pin holds, by dicts from the names to their programs and to their heads."""
    if pin[0] == "relation":
        return is_relation(_related(pin, programs), pin[2])
    if pin[0] == "equal":
        return programs[pin[1]] == pin[2]
    return (heads[pin[1]] == heads[pin[2]]) == (pin[0] == "alike")
