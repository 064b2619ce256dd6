"""Bags: programs with integer factors, added, subtracted and multiplied."""

from fewersteps.base.streams import Streams, check_content, check_filling, check_streams
from fewersteps.base.values import is_integer
from fewersteps.books.flows import MAX_FLOW, count_runs, counted_runs, runs_below
from fewersteps.books.program import Program, check_program
from fewersteps.errors import InvalidBag, InvalidOperation, TooMany


def check_bag(value):
    """Raise InvalidBag if the value is no bag."""
    if not isinstance(value, Bag):
        raise InvalidBag("this is no bag")


def check_flow(flow):
    """Raise TooMany if the flow, or another number of runs, is too great for looking at all these runs."""
    if flow > MAX_FLOW:
        raise TooMany(MAX_FLOW)


def count_in(bag, content, filling):
    """The number of a content and a filling of the bag, with words of any length."""
    return sum([factor * count_runs(program, content, filling) for program, factor in bag.pairs])


def flow_below(bag, many):
    """The number of all runs of the programs of the bag with fewer than so many steps, each program counted once."""
    return _flow_of(bag.pairs, many)


def numbers_below(bag, many):
    """A dict from all pairs (content, filling) with fewer steps and a number other than 0 to their numbers."""
    total = {}
    for program, factor in bag.pairs:
        for pair, runs in runs_below(program, many).items():
            total[pair] = total.get(pair, 0) + factor * runs
    return {pair: total[pair] for pair in sorted(total) if total[pair] != 0}


def _flow_of(pairs, many):
    """How many runs with fewer than so many steps the programs of the pairs have."""
    return sum([sum(counted_runs(program, many)) for program, factor in pairs])


def _are_pairs(streams, value):
    """Whether the value is a tuple of pairs of programs with these streams and integers."""
    if not isinstance(streams, Streams) or not isinstance(value, tuple):
        return False
    return all([_is_pair(streams, pair) for pair in value])


def _is_pair(streams, value):
    """Whether the value is a pair of a program with these streams and an integer."""
    if not isinstance(value, tuple) or len(value) != 2 or not is_integer(value[1]):
        return False
    return isinstance(value[0], Program) and value[0].streams == streams


def _joined(pairs):
    """The pairs with equal programs put together, and without the factor 0."""
    programs = []
    factors = []
    for program, factor in pairs:
        if program in programs:
            at = programs.index(program)
            factors[at] = factors[at] + factor
        else:
            programs.append(program)
            factors.append(factor)
    return tuple([(program, factor) for program, factor in zip(programs, factors) if factor != 0])


def _times(pairs, many):
    """The pairs with so many times their factors."""
    return tuple([(program, factor * many) for program, factor in pairs])


def _pairs_of(streams, value):
    """The pairs of a bag, or of a program that stands for the bag of it, with these streams."""
    if isinstance(value, Program) and value.streams == streams:
        return ((value, 1),)
    if isinstance(value, Bag) and value.streams == streams:
        return value.pairs
    raise InvalidOperation("this is no bag or program with the same streams")


def _made_bag(streams, pairs):
    """The bag of these pairs, whose factors can be longer than those that are passed."""
    bag = Bag(streams, ())
    bag._pairs = _joined(pairs)
    return bag


def _multiple(bag, many):
    """So many times the bag."""
    if not is_integer(many):
        raise InvalidOperation("a bag is multiplied with an integer")
    return _made_bag(bag.streams, _times(bag.pairs, many))


class Bag:
    """Programs with equal streams, each with a factor other than 0; it never changes."""

    def __init__(self, streams, pairs):
        if not _are_pairs(streams, pairs):
            raise InvalidBag("the pairs of a bag are programs with its streams and integers")
        self._streams = streams
        self._pairs = _joined(pairs)
        self._known_flow = None

    @classmethod
    def of(cls, program):
        """The bag of this program with the factor 1."""
        check_program(program)
        return cls(program.streams, ((program, 1),))

    @classmethod
    def none(cls, streams):
        """The bag without programs."""
        check_streams(streams)
        return cls(streams, ())

    @property
    def streams(self):
        """The streams of all programs."""
        return self._streams

    @property
    def pairs(self):
        """The different programs and their factors."""
        return self._pairs

    @property
    def bound(self):
        """The sum of the sizes of the programs, and 1."""
        return sum([program.size for program, factor in self._pairs]) + 1

    @property
    def flow(self):
        """The number of all runs with fewer steps than the bound, each program counted once."""
        if self._known_flow is None:
            self._known_flow = _flow_of(self._pairs, self.bound)
        return self._known_flow

    def number(self, content, filling):
        """The sum of the numbers of the programs, each times its factor."""
        check_content(self._streams, content)
        check_filling(self._streams, filling)
        return count_in(self, content, filling)

    def factor(self, program):
        """The factor of the program, or 0."""
        check_program(program)
        return sum([factor for own, factor in self._pairs if own == program])

    def short_numbers(self):
        """A dict from all pairs (content, filling) below the bound with a number other than 0 to their numbers."""
        check_flow(self.flow)
        return numbers_below(self, self.bound)

    def __add__(self, other):
        return _made_bag(self._streams, self._pairs + _pairs_of(self._streams, other))

    def __sub__(self, other):
        return _made_bag(self._streams, self._pairs + _times(_pairs_of(self._streams, other), -1))

    def __neg__(self):
        return _made_bag(self._streams, _times(self._pairs, -1))

    def __mul__(self, other):
        return _multiple(self, other)

    def __rmul__(self, other):
        return _multiple(self, other)

    def __bool__(self):
        return bool(self._pairs)

    def __contains__(self, value):
        return any([program == value for program, factor in self._pairs])

    def __len__(self):
        return len(self._pairs)

    def __eq__(self, other):
        if not isinstance(other, Bag):
            return False
        if self._streams != other._streams or len(self._pairs) != len(other._pairs):
            return False
        return all([pair in other._pairs for pair in self._pairs])

    def __str__(self):
        return f"bag of {len(self._pairs)} programs, bound {self.bound}"
