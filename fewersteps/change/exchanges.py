"""Exchanges: small changes of a program behind which it is alike to what it was."""

from fewersteps.base.values import check_number, is_between
from fewersteps.books.places import MAX_WAYS, ended_at, next_places, settled, trimmed_places
from fewersteps.books.program import MAX_PLACES, check_program, made_program
from fewersteps.change.kinds import advanced, copied_to, crossed, delayed, flattened, joined, skipped, swapped, turned
from fewersteps.errors import InvalidOperation, TooMany

MAX_ROW = 2
MAX_SEARCHED = 12


def with_exchange(program, exchange):
    """The program behind an exchange."""
    return with_exchanges(program, (exchange,))


def with_exchanges(program, row):
    """The program behind a tuple of exchanges, one after the other."""
    check_program(program)
    if not isinstance(row, tuple):
        raise InvalidOperation("this is no tuple of exchanges")
    behind = _places_behind(program, row)
    if behind is None:
        raise InvalidOperation("this is no exchange of the program")
    # Whether the later ones are exchanges counts ahead of how many places there are on the way.
    for places in behind:
        if len(places) > MAX_PLACES:
            raise TooMany(MAX_PLACES)
    return made_program(program.streams, behind[-1])


def _places_behind(program, row):
    """The list of the places of the trimmed program and behind each exchange, or None if one is no exchange.

    These can be more places than a program may have.
    """
    streams = program.streams
    behind = [trimmed_places(streams, program.places, 0)]
    places = program.places
    for exchange in row:
        places = _exchanged(streams, places, exchange)
        if places is None:
            return None
        behind.append(places)
    return behind


def _exchanged(streams, places, exchange):
    """The places of the trimmed program behind this exchange of the places, or None if it is none of them."""
    if not _is_formed(exchange, len(places)):
        return None
    made = _made_places(streams, places, exchange)
    if made is None:
        return None
    first = 0
    # Where the either place at which runs began is skipped, they begin behind it.
    if exchange == ("skip", 0):
        first = places[0][1][0]
    return trimmed_places(streams, [settled(streams, place) for place in made], first)


def _is_formed(value, many):
    """Whether the value has the form of an exchange of a program with so many places."""
    if not isinstance(value, tuple) or len(value) < 2 or not is_between(value[1], 0, many - 1):
        return False
    if value[0] in ("delay", "advance", "swap", "cross", "skip"):
        return len(value) == 2
    if value[0] in ("copy", "join"):
        return len(value) == 3 and is_between(value[2], 0, many - 1)
    if value[0] == "flat":
        return len(value) == 3 and _is_index(value[2])
    return value[0] == "turn" and len(value) == 3 and _are_indices(value[2])


def _is_index(value):
    """Whether the value is an index in an either place of the most places."""
    return is_between(value, 0, MAX_WAYS - 1)


def _are_indices(value):
    """Whether the value is a tuple of such indices."""
    return isinstance(value, tuple) and all([_is_index(index) for index in value])


def _made_places(streams, places, exchange):
    """The places behind an exchange of the right form, not trimmed, or None if it is none of these places."""
    kind = exchange[0]
    at = exchange[1]
    if kind == "delay":
        return delayed(places, at)
    if kind == "advance":
        return advanced(places, at)
    if kind == "swap":
        return swapped(places, at)
    if kind == "cross":
        return crossed(streams, places, at)
    if kind == "copy":
        return copied_to(places, at, exchange[2])
    if kind == "join":
        return joined(places, ended_at(streams, places), at, exchange[2])
    if kind == "skip":
        return skipped(places, at)
    return flattened(places, at, exchange[2]) if kind == "flat" else turned(places, at, exchange[2])


def possible_exchanges(program):
    """All exchanges of the program but those with `turn`, ascending."""
    check_program(program)
    found = _list_exchanges(program.streams, program.places)
    for exchange in found:
        yield exchange


def _list_exchanges(streams, places):
    """The ascending list of all exchanges of the places but those with `turn`."""
    found = []
    for at, place in enumerate(places):
        found.extend([(kind, at) for kind in ("advance", "cross", "delay", "skip", "swap")])
        found.extend([("copy", at, to) for to in sorted(set(next_places(place)))])
        found.extend([("flat", at, index) for index in range(MAX_WAYS)])
        found.extend([("join", at, other) for other in range(at + 1, len(places)) if places[other] == place])
    return sorted([exchange for exchange in found if _made_places(streams, places, exchange) is not None])


def exchange_row(program, other, *, most=2):
    """A tuple of at most so many exchanges, but no turns, that leads from the program to the trimmed other one."""
    check_program(program)
    check_program(other)
    check_number(most, 0, MAX_ROW)
    if len(program) > MAX_SEARCHED:
        raise TooMany(MAX_SEARCHED)
    found = _found_row(program, other, most) if program.streams == other.streams else None
    if found is None:
        raise InvalidOperation("no such exchanges lead to this program")
    return found


def _found_row(program, other, most):
    """A shortest such tuple, or None, for programs with equal streams."""
    streams = program.streams
    wanted = other.trimmed().places
    if program.trimmed().places == wanted:
        return ()
    rows = [((), program.places)]
    for _ in range(most):
        longer = [(row + (exchange,), made) for row, places in rows for exchange, made in _all_behind(streams, places)]
        for row, made in longer:
            if made == wanted:
                return row
        rows = longer
    return None


def _all_behind(streams, places):
    """The pairs of all exchanges but turns and the places behind them."""
    return [(exchange, _exchanged(streams, places, exchange)) for exchange in _list_exchanges(streams, places)]


def is_exchange_row(program, other, value):
    """Whether the value is a tuple of exchanges that leads from the program to the trimmed other one."""
    check_program(program)
    check_program(other)
    if not isinstance(value, tuple) or program.streams != other.streams:
        return False
    behind = _places_behind(program, value)
    if behind is None or not all([len(places) <= MAX_PLACES for places in behind]):
        return False
    return behind[-1] == other.trimmed().places
