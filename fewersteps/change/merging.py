"""Places that are alike, and programs in which they are put together."""

from fewersteps.base.values import check_number, is_between
from fewersteps.books.places import relinked
from fewersteps.books.program import check_program, made_program
from fewersteps.books.tails import check_tails, is_tail, parted, same_ended, tail_numbers
from fewersteps.errors import InvalidOperation


def alike_places(program):
    """The classes of alike places."""
    check_program(program)
    check_tails(program)
    classes, told = parted(program, same_ended(program))
    return tuple(sorted([tuple(places) for places in classes]))


def place_difference(program, one, other):
    """A tail of both places with unlike numbers, and with the fewest steps."""
    _check_places(program, one, other)
    check_tails(program)
    classes, told = parted(program, [[one, other]])
    if not told:
        raise InvalidOperation("the places are alike")
    return told[(min(one, other), max(one, other))]


def _check_places(program, one, other):
    """Raise the error that is due if these are not two places at which the same sources have ended."""
    check_program(program)
    check_number(one, 0, len(program) - 1)
    check_number(other, 0, len(program) - 1)
    if program.ended(one) != program.ended(other):
        raise InvalidOperation("not the same sources have ended at both places")


def is_place_difference(program, one, other, value):
    """Whether the value is a tail of both places with unlike numbers."""
    _check_places(program, one, other)
    if not is_tail(program, one, value):
        return False
    numbers = tail_numbers(program, [(one, value), (other, value)])
    return numbers[0] != numbers[1]


def slim(program):
    """The trimmed program without either places with one place in them."""
    check_program(program)
    places = program.trimmed().places
    numbers = {at: _behind_single(places, at) for at in range(len(places))}
    return made_program(program.streams, relinked(places, numbers))


def _behind_single(places, at):
    """The place, or that to which it leads through either places with one place in them."""
    while places[at][0] == "either" and len(places[at][1]) == 1:
        at = places[at][1][0]
    return at


def merged(program):
    """The slim program in which alike places are put together."""
    thin = slim(program)
    numbers = {at: places[0] for places in alike_places(thin) for at in places}
    return made_program(thin.streams, relinked(thin.places, numbers))


def apart_paper(program):
    """A dict from the pairs of places with the same ended sources to tails that show that they are not alike."""
    check_program(program)
    check_tails(program)
    classes, told = parted(program, same_ended(program))
    if len(classes) < len(program):
        raise InvalidOperation("some places are alike")
    return told


def is_apart_paper(program, value):
    """Whether the value is such a dict."""
    check_program(program)
    if not isinstance(value, dict) or not all([_is_key(program, key) for key in value]):
        return False
    pairs = [(one, other) for group in same_ended(program) for one in group for other in group if one < other]
    if len(value) != len(pairs) or not all([pair in value for pair in pairs]):
        return False
    if not all([is_tail(program, pair[0], value[pair]) for pair in pairs]):
        return False
    ones = tail_numbers(program, [(pair[0], value[pair]) for pair in pairs])
    others = tail_numbers(program, [(pair[1], value[pair]) for pair in pairs])
    return all([one != other for one, other in zip(ones, others)])


def _is_key(program, value):
    """Whether the value is a pair of places; True is not 1."""
    if not isinstance(value, tuple) or len(value) != 2:
        return False
    return all([is_between(at, 0, len(program) - 1) for at in value])
