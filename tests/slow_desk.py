"""A desk that works out everything anew for each call, and keeps all that was there for its history."""

from fewersteps.algebra.bags import Bag
from fewersteps.base.streams import is_name
from fewersteps.books.program import Program
from fewersteps.change.exchanges import with_exchange
from fewersteps.change.merging import merged
from fewersteps.decide.alike import is_alike
from fewersteps.decide.relations import is_relation
from fewersteps.errors import InvalidOperation, InvalidProgram, InvalidWord, Refused, TooMany, UnknownName

ARGUMENTS = {"enter": 2, "remove": 1, "exchange": 2, "merge": 1, "pin": 1, "unpin": 1}


def heads(programs):
    """A dict from names to the first names whose programs are alike."""
    return {
        name: next(other for other in sorted(programs) if is_alike(programs[other], programs[name]))
        for name in sorted(programs)
    }


def named(pin):
    """The names in a pin."""
    return list(pin[1]) if pin[0] == "relation" else [pin[1]] if pin[0] == "equal" else [pin[1], pin[2]]


def flow(programs):
    """The flow of different programs together."""
    return Bag(programs[0].streams, tuple((program, 1) for program in programs)).flow


def holds(programs, pin):
    """Whether a pin holds."""
    if pin[0] in ("alike", "unlike"):
        return is_alike(programs[pin[1]], programs[pin[2]]) is (pin[0] == "alike")
    if pin[0] == "relation":
        return is_relation(tuple(programs[name] for name in pin[1]), pin[2])
    return programs[pin[1]] == pin[2]


def is_pin(streams, programs, pin):
    """Whether the value is a pin about names that are there."""
    if type(pin) is not tuple or len(pin) != 3 or type(pin[0]) is not str:
        return False
    if pin[0] == "relation":
        if type(pin[1]) is not tuple or type(pin[2]) is not tuple or len(pin[1]) != len(pin[2]):
            return False
        if any(type(factor) is not int or abs(factor) >= 10 ** 60 for factor in pin[2]) or not pin[1]:
            return False
    elif pin[0] == "equal":
        if not isinstance(pin[2], Program) or pin[2].streams != streams:
            return False
    elif pin[0] not in ("alike", "unlike"):
        return False
    names = named(pin)
    return all(type(name) is str and name in programs for name in names) and len(set(names)) == len(names)


class SlowDesk:
    """Programs, pins, and all that was there ahead of each change."""

    def __init__(self, streams):
        self.streams, self.programs, self.pins = streams, {}, []
        self.past, self.future = [], []

    def twin(self):
        """A desk with the same programs, pins and histories."""
        desk = SlowDesk(self.streams)
        desk.programs, desk.pins = dict(self.programs), list(self.pins)
        desk.past, desk.future = list(self.past), list(self.future)
        return desk

    def make(self, kind, *given):
        """Make a change, and return the news."""
        programs, pins = dict(self.programs), list(self.pins)
        if kind in ("pin", "unpin"):
            self.make_pin(kind, given[0], pins)
        else:
            self.make_program(kind, given, programs)
        names = sorted(programs)
        pairs = [(one, other) for one in names for other in names if one < other]
        flows = [(Bag.of(programs[one]) - programs[other]).flow for one, other in pairs]
        flows += [flow([programs[name] for name in pin[1]]) for pin in pins if pin[0] == "relation"]
        if max(flows, default=0) > 20000:
            raise TooMany(20000)
        for pin in pins:
            if not holds(programs, pin):
                raise Refused(pin)
        self.past.append((self.programs, self.pins))
        self.future = []
        return self.go_to((programs, pins))

    def make_pin(self, kind, pin, pins):
        """Change the pins."""
        if not is_pin(self.streams, self.programs, pin) or (pin in pins) is (kind == "pin"):
            raise InvalidOperation("no pin")
        if kind == "unpin":
            pins.remove(pin)
        elif len(pins) == 8:
            raise TooMany(8)
        else:
            pins.append(pin)

    def make_program(self, kind, given, programs):
        """Change the programs."""
        name = given[0]
        if kind == "enter":
            if not is_name(name):
                raise InvalidWord("no name")
            if not isinstance(given[1], Program):
                raise InvalidProgram("no program")
            if given[1].streams != self.streams:
                raise InvalidOperation("other streams")
            programs[name] = given[1]
            if len(programs) > 6:
                raise TooMany(6)
            return
        if type(name) is not str or name not in programs:
            raise UnknownName(name)
        if kind == "remove":
            if any(name in named(pin) for pin in self.pins):
                raise InvalidOperation("a pin names it")
            del programs[name]
        else:
            before = programs[name]
            programs[name] = merged(before) if kind == "merge" else with_exchange(before, given[1])

    def go_to(self, state):
        """Go to other programs and pins, and return the news."""
        before = heads(self.programs)
        self.programs, self.pins = state
        after = heads(self.programs)
        names = sorted({*before, *after})
        rows = [(name, before.get(name, ""), after.get(name, "")) for name in names]
        return tuple(row for row in rows if row[1] != row[2])

    def go(self, many, back):
        """Take so many changes back, or make them again, and return the news."""
        before = self.programs
        for _ in range(many):
            (self.future if back else self.past).append((self.programs, self.pins))
            self.programs, self.pins = (self.past if back else self.future).pop()
        state = (self.programs, self.pins)
        self.programs = before
        return self.go_to(state)
