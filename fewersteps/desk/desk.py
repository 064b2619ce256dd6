"""Desks: programs with names, pins that hold at all times, and changes that can be taken back."""

from fewersteps.algebra.bags import Bag, check_flow
from fewersteps.base.streams import check_streams, is_name
from fewersteps.base.values import check_count
from fewersteps.books.program import check_program
from fewersteps.books.runs import fillings
from fewersteps.change.exchanges import with_exchange
from fewersteps.change.merging import merged
from fewersteps.decide.alike import apart, is_alike
from fewersteps.decide.relations import relations
from fewersteps.desk.pins import check_pin_flow, is_held, is_pin, names_of
from fewersteps.errors import InvalidOperation, InvalidWord, NothingToUndo, Refused, TooMany, UnknownName

MAX_PROGRAMS = 6
MAX_PINS = 8

# How many arguments the methods have that change a desk.
CHANGES = {"enter": 2, "remove": 1, "exchange": 2, "merge": 1, "pin": 1, "unpin": 1}


def _is_change(value):
    """Whether the value is a tuple of the name of a method that changes a desk, and its arguments."""
    if not isinstance(value, tuple) or len(value) == 0 or not isinstance(value[0], str):
        return False
    return value[0] in CHANGES and len(value) == 1 + CHANGES[value[0]]


def _news(before, after):
    """The news of the names whose heads are others now than they were."""
    names = sorted([name for name in {**before, **after} if before.get(name) != after.get(name)])
    return tuple([(name, before.get(name, ""), after.get(name, "")) for name in names])


def _check_flows(programs, changed):
    """Raise TooMany if there are too many short runs for comparing a changed program with another one."""
    for name in changed:
        for other in programs:
            check_flow((Bag.of(programs[name]) - programs[other]).flow)


def _heads_of(programs, changed, known):
    """The heads of all names, by the known ones of those whose programs were not changed."""
    heads = {}
    for name in programs:
        firsts = [own for own in heads if heads[own] == own]
        for first in firsts:
            if _are_alike(programs, changed, known, (first, name)):
                heads[name] = first
                break
        else:
            heads[name] = name
    return heads


def _are_alike(programs, changed, known, pair):
    """Whether the programs of two names are alike."""
    one, other = pair
    if one in changed or other in changed:
        return is_alike(programs[one], programs[other])
    return known[one] == known[other]


class Desk:
    """Programs for these streams by names, with pins and a history."""

    def __init__(self, streams):
        check_streams(streams)
        self._streams = streams
        self._programs = {}
        self._pins = ()
        self._heads = {}
        self._past = []
        self._future = []

    @property
    def streams(self):
        """The streams of all programs."""
        return self._streams

    @property
    def programs(self):
        """A dict from the names to the programs."""
        return dict(self._programs)

    @property
    def pins(self):
        """The pins, in the order in which they were pinned."""
        return self._pins

    @property
    def heads(self):
        """A dict from the names to their heads."""
        return dict(self._heads)

    def enter(self, name, program):
        """Add a program, or put it in the place of the one with this name, and return the news."""
        if not is_name(name):
            raise InvalidWord("this is no name")
        check_program(program)
        if program.streams != self._streams:
            raise InvalidOperation("the program has other streams")
        if name not in self._programs and len(self._programs) == MAX_PROGRAMS:
            raise TooMany(MAX_PROGRAMS)
        return self._replace(name, program)

    def remove(self, name):
        """Take a program away, and return the news."""
        self._check_name(name)
        if any([name in names_of(pin) for pin in self._pins]):
            raise InvalidOperation("a pin names this program")
        programs = {other: self._programs[other] for other in self._programs if other != name}
        return self._change(programs, self._pins)

    def exchange(self, name, exchange):
        """Replace a program by that behind an exchange, and return the news."""
        self._check_name(name)
        return self._replace(name, with_exchange(self._programs[name], exchange))

    def merge(self, name):
        """Replace a program by the one in which alike places are put together, and return the news."""
        self._check_name(name)
        return self._replace(name, merged(self._programs[name]))

    def pin(self, pin):
        """Add a pin, and return the empty news."""
        if not is_pin(self._streams, self._programs, pin) or pin in self._pins:
            raise InvalidOperation("this is no pin about names that are there, or it is there already")
        if len(self._pins) == MAX_PINS:
            raise TooMany(MAX_PINS)
        return self._change(self._programs, self._pins + (pin,))

    def unpin(self, pin):
        """Take a pin away, and return the empty news."""
        if not is_pin(self._streams, self._programs, pin) or pin not in self._pins:
            raise InvalidOperation("this is no pin that is there")
        return self._change(self._programs, tuple([own for own in self._pins if own != pin]))

    def _check_name(self, name):
        """Raise UnknownName if there is no program of this name."""
        if name not in self:
            raise UnknownName(name)

    def _replace(self, name, program):
        """Make the change to this program of the name, and return the news."""
        programs = {**self._programs, name: program}
        return self._change({own: programs[own] for own in sorted(programs)}, self._pins)

    def _change(self, programs, pins):
        """Make the change to these programs and pins, if no error is due, and return the news."""
        changed = [name for name in programs if self._programs.get(name) != programs[name]]
        _check_flows(programs, changed)
        # A pin that holds already holds as long as the programs of its names are the same.
        fresh = [pin for pin in pins if pin not in self._pins or any([name in changed for name in names_of(pin)])]
        for pin in fresh:
            check_pin_flow(pin, programs)
        heads = _heads_of(programs, changed, self._heads)
        for pin in fresh:
            if not is_held(pin, programs, heads):
                raise Refused(pin)
        self._past.append(self._state())
        self._future = []
        return self._go_to((programs, pins, heads))

    def _state(self):
        """The programs, pins and heads, none of which is ever changed itself."""
        return (self._programs, self._pins, self._heads)

    def _go_to(self, state):
        """Let this be the state, and return the news."""
        before = self._heads
        self._programs, self._pins, self._heads = state
        return _news(before, self._heads)

    def trial(self, *changes):
        """The tuple of the news that these changes would return, one behind the other."""
        if not all([_is_change(change) for change in changes]):
            raise InvalidOperation("this is no change with its arguments")
        desk = self.twin()
        told = []
        for change in changes:
            told.append(desk._make(change[0], change[1:]))
        return tuple(told)

    def _make(self, kind, given):
        """Make the change of this kind with what it was given, and return the news."""
        if kind == "enter":
            return self.enter(given[0], given[1])
        if kind == "remove":
            return self.remove(given[0])
        if kind == "exchange":
            return self.exchange(given[0], given[1])
        if kind == "merge":
            return self.merge(given[0])
        return self.pin(given[0]) if kind == "pin" else self.unpin(given[0])

    def undo(self, *, many=1):
        """Take the last changes back, and return the news."""
        return self._go_along(self._past, self._future, many)

    def redo(self, *, many=1):
        """Make the changes again that were taken back last, and return the news."""
        return self._go_along(self._future, self._past, many)

    def _go_along(self, ahead, behind, many):
        """Go to the last state ahead but so many, leave what is passed behind, and return the news."""
        check_count(many)
        if many > len(ahead):
            raise NothingToUndo(many)
        before = self._heads
        for _ in range(many):
            behind.append(self._state())
            self._go_to(ahead.pop())
        return _news(before, self._heads)

    def compare(self, one, other):
        """What `apart` returns for the programs of two names."""
        return apart(self[one], self[other])

    def relations(self):
        """The basis of the relations between all programs, names ascending."""
        if not self._programs:
            raise InvalidOperation("there are no programs")
        return relations(tuple(self._programs.values()))

    def run(self, name, content):
        """The fillings of the program of this name for this content."""
        return fillings(self[name], content)

    def twin(self):
        """An equal desk with equal histories that goes on by itself."""
        desk = Desk(self._streams)
        desk._go_to(self._state())
        desk._past = list(self._past)
        desk._future = list(self._future)
        return desk

    def __getitem__(self, name):
        if name not in self:
            raise UnknownName(name)
        return self._programs[name]

    def __iter__(self):
        return iter(self._programs)

    def __contains__(self, value):
        return isinstance(value, str) and value in self._programs

    def __len__(self):
        return len(self._programs)

    def __eq__(self, other):
        if not isinstance(other, Desk):
            return False
        return self._streams == other._streams and self._programs == other._programs and self._pins == other._pins

    def __str__(self):
        return f"desk of {len(self._programs)} programs, {len(self._pins)} pins"
