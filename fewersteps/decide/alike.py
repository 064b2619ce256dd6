"""Whether bags are empty and programs are alike, shown by short runs."""

from fewersteps.algebra.bags import Bag, check_bag, check_flow, count_in, flow_below, numbers_below
from fewersteps.base.streams import is_pair
from fewersteps.base.values import is_between
from fewersteps.books.program import Program
from fewersteps.errors import InvalidBag, InvalidOperation, InvalidProgram

MAX_CLASSED = 8


def is_empty(bag):
    """Whether all numbers of the bag are 0."""
    check_bag(bag)
    return not bag.short_numbers()


def is_alike(one, other):
    """Whether the difference of two programs or bags is empty."""
    return not _less(one, other).short_numbers()


def _less(one, other):
    """The bag `one` less the bag `other`, each perhaps given as a program; InvalidOperation for other streams."""
    left = _as_bag(one)
    right = _as_bag(other)
    return left - right


def _as_bag(value):
    """The bag, or the bag of the program."""
    if isinstance(value, Program):
        return Bag.of(value)
    if not isinstance(value, Bag):
        raise InvalidBag("this is no bag and no program")
    return value


def difference(bag):
    """A pair (content, filling) with the fewest steps and a number other than 0, or None."""
    check_bag(bag)
    return _least_pair(bag)


def _least_pair(bag):
    """The first one of the least differences of the bag, or None."""
    numbers = bag.short_numbers()
    least = _least_steps(bag, numbers)
    for pair in numbers:
        if _steps_of(bag, pair) == least:
            return pair
    return None


def _steps_of(bag, pair):
    """The number of steps of a content and a filling."""
    return bag.streams.steps_of(pair[0], pair[1])


def _least_steps(bag, numbers):
    """The least number of steps of the keys of a dict, or None if it has none."""
    return min([_steps_of(bag, pair) for pair in numbers], default=None)


def is_difference(bag, value):
    """Whether the value is a pair of a content and a filling whose number is not 0."""
    check_bag(bag)
    return is_pair(bag.streams, value) and count_in(bag, value[0], value[1]) != 0


def is_least_difference(bag, value):
    """Whether the value is a difference with the fewest steps."""
    check_bag(bag)
    numbers = bag.short_numbers()
    if not is_pair(bag.streams, value) or value not in numbers:
        return False
    return _steps_of(bag, value) == _least_steps(bag, numbers)


def apart(one, other):
    """A tuple (content, filling, number, number) of a least difference with both its numbers, or None."""
    pair = _least_pair(_less(one, other))
    if pair is None:
        return None
    content, filling = pair
    return (content, filling, count_in(_as_bag(one), content, filling), count_in(_as_bag(other), content, filling))


def is_apart(one, other, value):
    """Whether the value is a tuple of a difference, least or not, with both its numbers."""
    bag = _less(one, other)
    if not isinstance(value, tuple) or len(value) != 4 or not is_pair(bag.streams, value[:2]):
        return False
    numbers = (count_in(_as_bag(one), value[0], value[1]), count_in(_as_bag(other), value[0], value[1]))
    return numbers[0] != numbers[1] and all([_is_number(told, true) for told, true in zip(value[2:], numbers)])


def _is_number(value, number):
    """Whether the value is this integer; True is not 1."""
    return is_between(value, number, number)


def short_paper(one, other):
    """A paper that shows by short runs that programs or bags are alike, or that they are not."""
    bag = _less(one, other)
    _check_short(bag, one)
    found = apart(one, other)
    if found is None:
        return ("alike", bag.bound, numbers_below(_as_bag(one), bag.bound))
    return ("apart", *found)


def _check_short(bag, one):
    """Raise TooMany if there are too many short runs for a paper about the difference of `one` and another bag."""
    check_flow(bag.flow)
    check_flow(flow_below(_as_bag(one), bag.bound))


def is_short_paper(one, other, value):
    """Whether the value is such a paper."""
    bag = _less(one, other)
    _check_short(bag, one)
    if not isinstance(value, tuple) or len(value) == 0:
        return False
    if value[0] == "apart":
        return is_apart(one, other, value[1:]) and is_least_difference(bag, value[1:3])
    if value[0] != "alike" or len(value) != 3 or not _is_number(value[1], bag.bound):
        return False
    return not bag.short_numbers() and _are_numbers(value[2], numbers_below(_as_bag(one), bag.bound))


def _are_numbers(value, numbers):
    """Whether the value is this dict with integers; True is not 1."""
    if not isinstance(value, dict) or len(value) != len(numbers):
        return False
    return all([pair in value and _is_number(value[pair], numbers[pair]) for pair in numbers])


def alike_classes(programs):
    """The classes of programs that are alike, as tuples of indices."""
    _check_classed(programs)
    classes = []
    for at, program in enumerate(programs):
        found = [indices for indices in classes if is_alike(programs[indices[0]], program)]
        if found:
            found[0].append(at)
        else:
            classes.append([at])
    return tuple([tuple(indices) for indices in classes])


def _check_classed(programs):
    """Raise the error that is due if these are not programs that can be classed."""
    if not isinstance(programs, tuple) or not 1 <= len(programs) <= MAX_CLASSED:
        raise InvalidProgram("these are not a tuple of one to eight programs")
    if not all([isinstance(program, Program) for program in programs]):
        raise InvalidProgram("some of these are no programs")
    if not all([program.streams == programs[0].streams for program in programs]):
        raise InvalidOperation("the streams are not equal")
    for at, program in enumerate(programs):
        for other in programs[:at]:
            check_flow(_less(program, other).flow)
