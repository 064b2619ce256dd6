"""The module desk: programs by names, pins, news, and what is taken back and made again."""

import copy
import itertools
import random
import unittest

from fewersteps.base.streams import Streams
from fewersteps.books.program import Program, made_program
from fewersteps.books.runs import fillings
from fewersteps.change.exchanges import possible_exchanges, with_exchange
from fewersteps.decide.alike import apart
from fewersteps.decide.relations import relations
from fewersteps.desk.desk import MAX_PINS, MAX_PROGRAMS, Desk
from fewersteps.errors import InvalidContent, InvalidNumber, InvalidOperation, InvalidProgram, InvalidStreams
from fewersteps.errors import InvalidWord, NothingToUndo, Refused, TooMany, UnknownName
from tests.cases import Case, spoil
from tests.slow_desk import ARGUMENTS, SlowDesk, heads
from tests.values import BARE, COPY, EARLY, FLIP, LATE, LINE, LOST, NEST, PAIR, SOUND, TOSS, but, long_program
from tests.values import ways_program

TURN = COPY.exchanged("z", "a", "b")
DOUBLE = with_exchange(COPY, ("copy", 1, 0))
SAME = with_exchange(COPY, ("delay", 1))
NOTHING = Program.nothing(LINE)
SMALL = (COPY, TURN, DOUBLE, SAME, TOSS, FLIP, LOST, NOTHING, Program.reading(LINE))
NAMES = ("a", "b", "copy", "late", "c", "zz")


def state(desk):
    """All that can be seen of a desk."""
    return (desk.programs, desk.pins, desk.heads)


def desk_of(**programs):
    """A desk for LINE with these programs."""
    desk = Desk(LINE)
    for name, program in programs.items():
        desk.enter(name, program)
    return desk


class TestExamples(Case):
    def test_examples(self):
        desk = Desk(LINE)
        self.same(
            [
                desk.enter("late", LATE), desk.enter("copy", COPY), desk.heads, desk.pin(("alike", "copy", "late")),
                desk.relations(), str(desk),
            ],
            [
                (("late", "", "late"),), (("copy", "", "copy"), ("late", "late", "copy")),
                {"copy": "copy", "late": "copy"}, (), ((1, -1),), "desk of 2 programs, 1 pins",
            ],
        )
        self.same(
            [
                desk.exchange("copy", ("copy", 1, 0)), len(desk["copy"]), desk.merge("copy"), desk["copy"] == COPY,
                desk.undo(many=2), desk.run("late", ("ab",)),
            ],
            [(), 5, (), True, (), {("ab",): 1}],
        )
        self.assertEqual([MAX_PROGRAMS, MAX_PINS], [6, 8])


class TestHistories(Case):
    """Long histories, each call of which is compared with that of a desk that works out everything anew."""

    def random_pin(self, pick, model):
        """A pin, mostly one that can be pinned."""
        names = sorted(model.programs) + (["a"] if pick.random() < 0.1 else [])
        if len(names) < 2 or pick.random() < 0.05:
            return pick.choice((("alike", "a", "a"), ("like", "a", "b"), ("equal", "q", COPY), ("relation", (), ())))
        kind = pick.choice(("alike", "unlike", "relation", "equal"))
        one, other = pick.sample(names, 2)
        if kind == "relation":
            chosen = tuple(pick.sample(names, min(len(names), pick.randrange(3) + 1)))
            rows = [(1, -1), (0,), (2, -2), (1, 0), (1, 1, -2), (0, 0, 0), (1, -1, 0), (True, -1)]
            return (kind, chosen, pick.choice([row for row in rows if len(row) == len(chosen)]))
        if kind == "equal":
            return (kind, one, model.programs.get(one, COPY) if pick.random() < 0.8 else pick.choice((*SMALL, EARLY)))
        return (kind, one, other)

    def random_change(self, pick, model):
        """A change, mostly one that can be made."""
        names = sorted(model.programs) * 3 + list(NAMES[:2])
        kind = pick.choice(("enter", "enter", "remove", "exchange", "exchange", "merge", "pin", "pin", "pin", "unpin"))
        name = pick.choice(names)
        if kind == "enter":
            return (kind, pick.choice(NAMES + NAMES + ("d", "end")), pick.choice((*SMALL, *SMALL, EARLY)))
        if kind == "exchange":
            program = model.programs.get(name, COPY)
            found = list(possible_exchanges(program)) if len(program) < 9 else [("skip", 0)]
            return (kind, name, pick.choice(found + [("copy", 0, 0)]))
        if kind == "pin":
            return (kind, self.random_pin(pick, model))
        if kind == "unpin":
            return (kind, pick.choice(model.pins) if model.pins and pick.random() < 0.8 else ("alike", "a", "b"))
        return (kind, name)

    def outcome(self, call):
        """What the call returns, or what it raises."""
        try:
            return ("returned", call())
        except (InvalidOperation, InvalidWord, InvalidProgram) as error:
            return (type(error).__name__,)
        except Refused as error:
            return ("Refused", error.claim)
        except UnknownName as error:
            return ("UnknownName", error.wanted)
        except TooMany as error:
            return ("TooMany", error.limit)

    def apply(self, desk, change):
        """Call the method of the desk."""
        return getattr(desk, change[0])(*change[1:])

    def test_histories(self):
        seen = {}
        for seed in range(40):
            pick = random.Random(seed)
            desk, model = Desk(LINE), SlowDesk(LINE)
            for _ in range(60):
                what = pick.random()
                if what < 0.15:
                    self.go_back_or_on(pick, desk, model)
                elif what < 0.25:
                    self.try_out(pick, desk, model)
                elif what < 0.3:
                    twin = desk.twin()
                    self.assertEqual([twin, state(twin)], [desk, state(desk)])
                    desk, left = twin, desk
                    left.undo(many=min(1, len(model.past)))
                else:
                    change = self.random_change(pick, model)
                    kept = (copy.deepcopy(state(desk)), len(model.past), len(model.future))
                    told = self.outcome(lambda: self.apply(desk, change))
                    self.assertEqual(told, self.outcome(lambda: model.make(*change)), change)
                    seen[(change[0], told[0])] = seen.get((change[0], told[0]), 0) + 1
                    if told[0] != "returned":
                        self.assertEqual(state(desk), kept[0])
                self.compare(desk, model)
        for kind in ARGUMENTS:
            self.assertGreater(seen.get((kind, "returned"), 0), 3, seen)
        for kind, error in (("enter", "InvalidWord"), ("enter", "InvalidOperation"), ("remove", "InvalidOperation"),
                            ("remove", "UnknownName"), ("pin", "Refused"), ("enter", "Refused"),
                            ("exchange", "InvalidOperation"), ("unpin", "InvalidOperation"), ("exchange", "Refused")):
            self.assertGreater(seen.get((kind, error), 0), 0, (kind, error, seen))

    def go_back_or_on(self, pick, desk, model):
        """Take changes back or make them again, perhaps too many."""
        back = pick.random() < 0.6
        there = len(model.past if back else model.future)
        many = pick.randrange(4)
        call = desk.undo if back else desk.redo
        if many > there:
            self.refused(NothingToUndo, call, many=many, keeps=("many", many))
        else:
            self.same(call(many=many), model.go(many, back))

    def try_out(self, pick, desk, model):
        """Try several changes out."""
        changes = [self.random_change(pick, model) for _ in range(pick.randrange(4))]
        other = model.twin()
        told = self.outcome(lambda: desk.trial(*changes))
        self.assertEqual(told, self.outcome(lambda: tuple(other.make(*change) for change in changes)))

    def compare(self, desk, model):
        """The desk shows what the slow one has, and all that is worked out anew."""
        self.assertEqual(desk.programs, model.programs)
        self.assertEqual(desk.pins, tuple(model.pins))
        self.same(desk.heads, heads(model.programs))
        self.same([list(desk), len(desk)], [sorted(model.programs), len(model.programs)])
        self.same(str(desk), f"desk of {len(model.programs)} programs, {len(model.pins)} pins")
        self.refused(NothingToUndo, desk.undo, many=len(model.past) + 1, keeps=("many", len(model.past) + 1))
        self.refused(NothingToUndo, desk.redo, many=len(model.future) + 1, keeps=("many", len(model.future) + 1))


class TestChanges(Case):
    def test_enter(self):
        desk = Desk(LINE)
        self.same(desk.enter("b", COPY), (("b", "", "b"),))
        self.same(desk.enter("c", DOUBLE), (("c", "", "b"),))
        self.same(desk.enter("a", SAME), (("a", "", "a"), ("b", "b", "a"), ("c", "b", "a")))
        self.same(desk.heads, {"a": "a", "b": "a", "c": "a"})
        self.same(desk.enter("a", TURN), (("b", "a", "b"), ("c", "a", "b")))
        # The same program again is a change, too.
        self.same(desk.enter("a", TURN), ())
        self.same(desk.undo(), ())
        self.same(desk.undo(), (("b", "b", "a"), ("c", "b", "a")))
        self.same(desk.enter("b", TURN), (("b", "a", "b"),))
        self.same(desk.heads, {"a": "a", "b": "b", "c": "a"})
        self.same(desk.remove("a"), (("a", "a", ""), ("c", "a", "c")))
        self.same(desk.heads, {"b": "b", "c": "c"})

    def test_exchange_and_merge(self):
        desk = desk_of(one=COPY, other=TURN)
        self.same(desk.exchange("one", ("delay", 1)), ())
        self.assertEqual(desk["one"], SAME)
        self.same(desk.exchange("other", ("copy", 0, 1)), ())
        self.assertEqual(desk.merge("other"), ())
        self.assertEqual(desk["other"], TURN.ordered())
        self.same(desk.undo(many=3), ())
        self.assertEqual(desk["one"], COPY)

    def test_order_of_enter(self):
        desk = desk_of(a=COPY, b=COPY, c=COPY, d=COPY, e=COPY, f=COPY)
        desk.pin(("equal", "a", COPY))
        for value in but():
            if not isinstance(value, str) or not value.islower() or not value.isalpha() or not 0 < len(value) < 9 or (
                    value == "end"):
                self.refused(InvalidWord, desk.enter, value, None)
            if not isinstance(value, Program):
                self.refused(InvalidProgram, desk.enter, "g", value)
        # Other streams come ahead of too many names, and these ahead of too many runs.
        self.refused(InvalidOperation, desk.enter, "g", EARLY)
        self.refused(TooMany, desk.enter, "g", COPY, keeps=("limit", 6))
        self.refused(TooMany, desk.enter, "g", long_program(80), keeps=("limit", 6))
        # These come ahead of a pin that would not hold.
        self.refused(TooMany, desk.enter, "a", long_program(80), keeps=("limit", 20000))
        self.refused(Refused, desk.enter, "a", TURN, keeps=("claim", ("equal", "a", COPY)))
        self.same(desk.enter("b", TURN), (("b", "a", "b"),))

    def test_refused_names(self):
        desk = desk_of(a=COPY)
        for value in but("a"):
            self.refused(UnknownName, desk.remove, value, keeps=("wanted", value))
            self.refused(UnknownName, desk.exchange, value, None, keeps=("wanted", value))
            self.refused(UnknownName, desk.merge, value, keeps=("wanted", value))
            self.refused(UnknownName, desk.run, value, None, keeps=("wanted", value))
            self.refused(UnknownName, desk.compare, value, "q", keeps=("wanted", value))
            self.refused(UnknownName, desk.compare, "a", value, keeps=("wanted", value))
            self.refused(UnknownName, lambda: desk[value], keeps=("wanted", value))
            self.assertIs(value in desk, False)
            if type(value) is not tuple or value[:1] != ("delay",):
                self.refused(InvalidOperation, desk.exchange, "a", value)
        self.assertEqual(state(desk), ({"a": COPY}, (), {"a": "a"}))

    def test_exchange_limits(self):
        puts = [("put", "z", "a", at + 1 if at < 78 else 0) for at in range(1, 79)]
        looped = made_program(LINE, (("take", "x", {"a": 1, "b": 2, "end": 79}), *puts, ("done",)))
        desk = desk_of(a=looped)
        desk.pin(("equal", "a", looped))
        self.refused(InvalidOperation, desk.exchange, "a", ("skip", 0))
        self.refused(TooMany, desk.exchange, "a", ("copy", 0, 2), keeps=("limit", 80))
        desk = desk_of(a=COPY, b=TURN)
        desk.pin(("equal", "a", COPY))
        self.refused(Refused, desk.exchange, "a", ("delay", 1), keeps=("claim", ("equal", "a", COPY)))
        # What the new place is like is what the old one was like, and nothing else leads to that one.
        self.same(desk.exchange("a", ("copy", 0, 1)), ())

    def test_merge_limits(self):
        desk = Desk(BARE)
        desk.enter("a", ways_program(20001))
        self.refused(TooMany, desk.merge, "a", keeps=("limit", 20000))
        desk.enter("a", ways_program(20000))
        self.same(desk.merge("a"), ())

    def test_flows(self):
        desk = Desk(BARE)
        self.same(desk.enter("a", ways_program(20001)), (("a", "", "a"),))
        # Equal programs have no difference with runs; other ones have.
        self.same(desk.enter("b", ways_program(20001)), (("b", "", "a"),))
        self.refused(TooMany, desk.enter, "c", SOUND, keeps=("limit", 20000))
        self.refused(TooMany, desk.enter, "b", SOUND, keeps=("limit", 20000))
        self.assertEqual(state(desk)[2], {"a": "a", "b": "a"})
        # No runs are looked at for likeness of equal programs, but for relations.
        self.same(desk.pin(("alike", "a", "b")), ())
        self.same(desk.pin(("equal", "a", ways_program(20001))), ())
        self.refused(TooMany, desk.pin, ("relation", ("a", "b"), (1, -1)), keeps=("limit", 20000))
        self.refused(TooMany, desk.pin, ("relation", ("a",), (1,)), keeps=("limit", 20000))
        self.refused(TooMany, desk.relations, keeps=("limit", 20000))
        self.same(desk.compare("a", "b"), None)

    def test_flows_of_pins(self):
        # Each two programs have few runs, but all three of a relation have too many.
        desk = Desk(BARE)
        many = [ways_program(9000), ways_program(9001), ways_program(9002)]
        for name, program in zip("abc", many):
            desk.enter(name, program)
        self.refused(TooMany, desk.pin, ("relation", ("a", "b", "c"), (0, 0, 0)), keeps=("limit", 20000))
        desk = Desk(BARE)
        for name, program in zip("abc", (many[0], many[0], many[1])):
            desk.enter(name, program)
        self.same(desk.pin(("relation", ("a", "b", "c"), (1, -1, 0))), ())
        self.refused(TooMany, desk.enter, "b", many[2], keeps=("limit", 20000))
        self.refused(Refused, desk.enter, "b", many[1], keeps=("claim", ("relation", ("a", "b", "c"), (1, -1, 0))))
        # Too many runs for a later pin come ahead of an earlier one that would not hold.
        desk = Desk(BARE)
        for name, program in zip("abc", (many[0], many[0], many[1])):
            desk.enter(name, program)
        for pin in (("alike", "a", "b"), ("relation", ("a", "b", "c"), (1, -1, 0))):
            desk.pin(pin)
        self.refused(Refused, desk.enter, "b", many[1], keeps=("claim", ("alike", "a", "b")))
        self.refused(TooMany, desk.enter, "b", many[2], keeps=("limit", 20000))

    def test_flows_of_all_pairs(self):
        # The new program is compared with the first one of alike programs, but each of them counts for the runs.
        few = Program(BARE, (("either", (1, 1, 1, 1)), ("either", (2, 2, 2, 2)), ("take", "x", {"end": 3}), ("done",)))
        takes = [("take", "x", {"end": 21}) for _ in range(16)]
        ways = [("either", tuple(range(at, at + 4))) for at in (1, 5, 9, 13, 17)]
        many = Program(BARE, (*ways, *takes, ("done",)))
        double = Program(BARE, (("take", "x", {"a": 1, "end": 2}), ("either", (0, 0)), ("done",)))
        desk = Desk(BARE)
        for name, program in (("a", few), ("b", many)):
            desk.enter(name, program)
        self.same(desk.heads, {"a": "a", "b": "a"})
        self.refused(TooMany, desk.enter, "c", double, keeps=("limit", 20000))
        desk.remove("b")
        self.same(desk.enter("c", double), (("c", "", "c"),))
        self.refused(TooMany, desk.enter, "b", many, keeps=("limit", 20000))

    def test_remove(self):
        pins = (("alike", "a", "b"), ("unlike", "a", "c"), ("relation", ("d", "a"), (0, 0)), ("equal", "e", TOSS))
        desk = desk_of(a=COPY, b=DOUBLE, c=TURN, d=NOTHING, e=TOSS, f=COPY)
        for pin in pins:
            desk.pin(pin)
        for name in "abcde":
            self.refused(InvalidOperation, desk.remove, name)
        self.same(desk.remove("f"), (("f", "a", ""),))
        for pin in pins:
            desk.unpin(pin)
        for name in "bcde":
            desk.remove(name)
        self.same(desk.remove("a"), (("a", "a", ""),))
        self.same([state(desk), len(desk)], [({}, (), {}), 0])


class TestPins(Case):
    def test_all_forms(self):
        desk = desk_of(a=COPY, b=DOUBLE, c=TURN, d=TOSS)
        right = [
            ("alike", "a", "b"), ("alike", "b", "a"), ("unlike", "a", "c"), ("unlike", "d", "b"),
            ("relation", ("a", "b"), (1, -1)), ("relation", ("d",), (0,)), ("equal", "a", COPY),
            ("relation", ("b", "c", "a"), (3, 0, -3)),
        ]
        wrong = [
            ("alike", "a", "c"), ("unlike", "b", "a"), ("relation", ("a", "b"), (1, 1)), ("relation", ("d",), (1,)),
            ("equal", "a", DOUBLE), ("equal", "b", COPY), ("relation", ("c", "b"), (1, -1)),
        ]
        for pin in wrong:
            self.refused(Refused, desk.pin, pin, keeps=("claim", pin))
        for at, pin in enumerate(right):
            self.same(desk.pin(pin), ())
            self.assertEqual(desk.pins, tuple(right[:at + 1]))
            self.refused(InvalidOperation, desk.pin, pin)
        self.same(str(desk), "desk of 4 programs, 8 pins")
        # Too many pins come behind those that are none, and ahead of those that would not hold.
        self.refused(TooMany, desk.pin, ("unlike", "a", "d"), keeps=("limit", 8))
        self.refused(TooMany, desk.pin, ("alike", "a", "d"), keeps=("limit", 8))
        self.refused(InvalidOperation, desk.pin, ("alike", "a", "a"))
        self.refused(InvalidOperation, desk.pin, right[0])
        for pin in right[::2]:
            self.same(desk.unpin(pin), ())
            self.refused(InvalidOperation, desk.unpin, pin)
        self.assertEqual(desk.pins, tuple(right[1::2]))
        self.same(desk.undo(many=4), ())
        self.assertEqual(desk.pins, tuple(right))

    def test_no_pins(self):
        desk = desk_of(a=COPY, b=DOUBLE, c=TURN)
        desk.pin(("relation", ("a",), (0,)))
        wrong = [
            ("alike", "a"), ("alike", "a", "b", "c"), ["alike", "a", "b"], ("like", "a", "b"), ("alike", "a", "d"),
            ("alike", "d", "a"), ("alike", "a", "a"), ("unlike", "a", ["b"]), ("alike", ("a",), "b"),
            ("alike", {}, "a"),
            ("relation", ("a", "b"), (1,)), ("relation", ("a", "a"), (1, -1)), ("relation", (), ()),
            ("relation", ("a", "d"), (0, 0)), ("relation", ["a"], (0,)), ("relation", ("a",), [0]),
            ("relation", ("a",), (False,)), ("relation", ("a",), (10 ** 60,)), ("relation", "a", (0,)),
            ("relation", ("a",), (0, 0)), ("equal", "a", None), ("equal", "d", COPY), ("equal", "a", EARLY),
            ("equal", "a", "b"), ("equal", ("a",), COPY), ("equal", "a", COPY, COPY), (), "alike", ("equal", COPY, "a"),
            ("relation", (["a"],), (0,)), ("relation", ({},), (0,)), (None, "a", "b"), (("alike",), "a", "b"),
            ("same", "a", COPY), (None, "a", COPY), ("unlik", "a", "b"), ("relations", ("a",), (0,)),
        ]
        for value in (*wrong, *but()):
            self.refused(InvalidOperation, desk.pin, value)
            self.refused(InvalidOperation, desk.unpin, value)
        for kind in ("alike", "unlike"):
            for value in but("a", "b", "c"):
                self.refused(InvalidOperation, desk.pin, (kind, "a", value))
                self.refused(InvalidOperation, desk.pin, (kind, value, "a"))
        for value in but():
            if not isinstance(value, Program) or value.streams != LINE:
                self.refused(InvalidOperation, desk.pin, ("equal", "a", value))
            self.refused(InvalidOperation, desk.pin, ("relation", ("a",), value))
            if value not in ("a", "b", "c"):
                self.refused(InvalidOperation, desk.pin, ("relation", (value,), (0,)))
        self.assertEqual(desk.pins, (("relation", ("a",), (0,)),))
        self.same(desk.pin(("relation", ("a", "b"), (10 ** 60 - 1, 1 - 10 ** 60))), ())

    def test_the_first_pin(self):
        desk = desk_of(a=COPY, b=DOUBLE, c=TURN)
        pins = [("relation", ("a", "b"), (1, -1)), ("alike", "a", "b"), ("equal", "a", COPY), ("unlike", "c", "a")]
        for pin in pins:
            desk.pin(pin)
        self.refused(Refused, desk.enter, "a", TURN, keeps=("claim", pins[0]))
        self.refused(Refused, desk.exchange, "a", ("delay", 1), keeps=("claim", pins[2]))
        self.refused(Refused, desk.enter, "c", SAME, keeps=("claim", pins[3]))
        desk.unpin(pins[0])
        self.refused(Refused, desk.enter, "a", TURN, keeps=("claim", pins[1]))
        desk.pin(pins[0])
        self.refused(Refused, desk.enter, "a", TURN, keeps=("claim", pins[1]))
        desk.unpin(pins[1])
        self.refused(Refused, desk.enter, "a", TURN, keeps=("claim", pins[2]))
        desk.unpin(pins[2])
        self.refused(Refused, desk.enter, "a", TURN, keeps=("claim", pins[3]))
        desk.unpin(pins[3])
        self.refused(Refused, desk.enter, "a", TURN, keeps=("claim", pins[0]))
        self.same(desk.merge("b"), ())
        self.refused(Refused, desk.enter, "b", TURN, keeps=("claim", pins[0]))

    def test_six_names(self):
        desk = desk_of(a=COPY, b=COPY, c=COPY, d=COPY, e=COPY, f=COPY)
        self.same(desk.pin(("relation", tuple("fedcba"), (1, 1, 1, -1, -1, -1))), ())
        self.refused(InvalidOperation, desk.pin, ("relation", tuple("fedcbaa"), (1, 1, 1, -1, -1, -1, 0)))

    def test_names_like_pins(self):
        desk = desk_of(alike=COPY, unlike=TURN, equal=COPY, relation=COPY)
        for pin in (("unlike", "alike", "unlike"), ("equal", "alike", COPY), ("relation", ("alike", "unlike"), (0, 0))):
            desk.pin(pin)
        for name in ("alike", "unlike"):
            self.refused(InvalidOperation, desk.remove, name)
        for name in ("equal", "relation"):
            self.same(desk.remove(name), ((name, "alike", ""),))

    def test_equal_is_about_places(self):
        desk = desk_of(a=TOSS)
        desk.pin(("equal", "a", TOSS))
        self.refused(Refused, desk.enter, "a", TOSS.ordered(), keeps=("claim", ("equal", "a", TOSS)))
        self.refused(Refused, desk.merge, "a", keeps=("claim", ("equal", "a", TOSS)))
        self.same(desk.enter("a", Program(LINE, TOSS.places)), ())


class TestHistory(Case):
    def test_undo_and_redo(self):
        desk = Desk(LINE)
        states = [state(desk)]
        for change in (("enter", "b", COPY), ("enter", "a", DOUBLE), ("pin", ("alike", "a", "b")), ("merge", "a"),
                       ("unpin", ("alike", "a", "b")), ("enter", "a", TURN), ("remove", "b")):
            getattr(desk, change[0])(*change[1:])
            states.append(state(desk))
        many = len(states) - 1
        for one, other in itertools.product(range(many + 1), repeat=2):
            desk.undo(many=many - one)
            self.assertEqual(state(desk), states[one])
            told = desk.redo(many=other - one) if other >= one else desk.undo(many=one - other)
            self.assertEqual(state(desk), states[other])
            before, after = states[one][2], states[other][2]
            names = sorted({*before, *after})
            rows = [(name, before.get(name, ""), after.get(name, "")) for name in names]
            self.same(told, tuple(row for row in rows if row[1] != row[2]))
            desk.redo(many=many - other)
            self.assertEqual(state(desk), states[many])

    def test_other_changes(self):
        desk = desk_of(a=COPY, b=TURN)
        desk.undo()
        # Calls that are refused, that look, or that try out leave what can be made again.
        for call in (lambda: desk.enter("end", COPY), lambda: desk.remove("b"), lambda: desk.pin(("alike", "a", "b")),
                     lambda: desk.undo(many=2), lambda: desk.redo(many=2), lambda: desk.trial(("remove", "b"))):
            self.assertRaises((InvalidWord, UnknownName, InvalidOperation, NothingToUndo), call)
        desk.trial(("remove", "a"))
        desk.undo(many=0)
        desk.twin().enter("c", COPY)
        self.same(desk.redo(), (("b", "", "b"),))
        desk.undo(many=2)
        desk.enter("a", COPY)
        self.refused(NothingToUndo, desk.redo, keeps=("many", 1))
        self.same(desk.undo(many=1), (("a", "a", ""),))
        self.refused(NothingToUndo, desk.undo, keeps=("many", 1))
        self.same(desk.redo(), (("a", "", "a"),))

    def test_refused_changes_are_none(self):
        desk = desk_of(a=COPY, b=DOUBLE)
        desk.pin(("alike", "a", "b"))
        self.refused(Refused, desk.enter, "a", TURN, keeps=("claim", ("alike", "a", "b")))
        self.same(desk.undo(), ())
        self.assertEqual(desk.pins, ())
        self.same(desk.undo(many=2), (("a", "a", ""), ("b", "a", "")))

    def test_numbers(self):
        desk = desk_of(a=COPY)
        for value in but(0, 1, 2, 3, 24, 25, 40, 41, 80, 81, 10 ** 59, 10 ** 60 - 1):
            self.refused(InvalidNumber, desk.undo, many=value, keeps=("given", value))
            self.refused(InvalidNumber, desk.redo, many=value, keeps=("given", value))
        for value in (2, 24, 10 ** 60 - 1):
            self.refused(NothingToUndo, desk.undo, many=value, keeps=("many", value))
            self.refused(NothingToUndo, desk.redo, many=value, keeps=("many", value))
        self.same([desk.undo(many=0), desk.redo(many=0), desk.undo(), desk.redo()],
                  [(), (), (("a", "a", ""),), (("a", "", "a"),)])

    def test_twin(self):
        desk = desk_of(a=COPY, b=TURN)
        desk.pin(("unlike", "a", "b"))
        desk.undo()
        twin = desk.twin()
        self.assertEqual(twin, desk)
        self.same([twin.redo(), twin.pins, desk.pins], [(), (("unlike", "a", "b"),), ()])
        self.assertNotEqual(twin, desk)
        desk.remove("a")
        self.same([list(twin), list(desk)], [["a", "b"], ["b"]])
        self.same(twin.undo(many=3), (("a", "a", ""), ("b", "b", "")))
        self.same(desk.undo(), (("a", "", "a"),))

    def test_trial(self):
        desk = desk_of(a=COPY)
        before = state(desk)
        self.same(desk.trial(), ())
        self.same(
            desk.trial(("enter", "b", DOUBLE), ("pin", ("alike", "a", "b")), ("merge", "b"),
                       ("exchange", "b", ("copy", 1, 0)), ("unpin", ("alike", "a", "b")), ("remove", "a")),
            ((("b", "", "a"),), (), (), (), (), (("a", "a", ""), ("b", "a", "b"))),
        )
        self.refused(UnknownName, desk.trial, ("enter", "b", DOUBLE), ("remove", "b"), ("remove", "b"),
                     keeps=("wanted", "b"))
        self.refused(Refused, desk.trial, ("enter", "b", TURN), ("pin", ("alike", "a", "b")), ("remove", "q"),
                     keeps=("claim", ("alike", "a", "b")))
        wrong = [
            (), ("enter",), ("enter", "b"), ("enter", "b", COPY, 1), ("remove",), ("remove", "a", "b"), ("undo",),
            ("redo", 1), ("twin",), ("run", "a", ("",)), ["remove", "a"], "remove", ("trial",), ("pin",),
            ("unpin", 1, 2), ("merge", "a", 1), ("exchange", "a"), (None, "a"), (["remove"], "a"), ({}, 1),
        ]
        for value in (*wrong, *but()):
            self.refused(InvalidOperation, desk.trial, value)
            # The form of all changes comes ahead of what the first one that fails raises.
            self.refused(InvalidOperation, desk.trial, ("remove", "q"), value)
        self.assertEqual(state(desk), before)
        self.refused(NothingToUndo, desk.undo, many=2, keeps=("many", 2))

    def test_trial_with_several_errors(self):
        desk = desk_of(a=COPY)
        self.refused(InvalidWord, desk.trial, ("enter", 1, 2), ("remove", "q"))
        self.refused(UnknownName, desk.trial, ("remove", "q"), ("enter", 1, 2), keeps=("wanted", "q"))


class TestLooking(Case):
    def test_compare(self):
        programs = {"a": COPY, "b": DOUBLE, "c": TURN, "d": TOSS, "e": NEST}
        desk = desk_of(**programs)
        for one, other in itertools.product(programs, repeat=2):
            self.same(desk.compare(one, other), apart(programs[one], programs[other]))
        self.refused(UnknownName, desk.compare, "x", "y", keeps=("wanted", "x"))
        self.refused(UnknownName, desk.compare, "a", "y", keeps=("wanted", "y"))

    def test_relations(self):
        desk = Desk(LINE)
        self.refused(InvalidOperation, desk.relations)
        for name, program in (("c", COPY), ("a", TOSS), ("b", DOUBLE)):
            desk.enter(name, program)
        self.same(desk.relations(), relations((TOSS, DOUBLE, COPY)))
        self.same(desk.relations(), ((0, 1, -1),))

    def test_run(self):
        desk = desk_of(a=COPY, b=TOSS)
        for content in LINE.contents(3):
            self.same(desk.run("b", content), fillings(TOSS, content))
        for value in but():
            if type(value) is not tuple or len(value) != 1 or type(value[0]) is not str or set(value[0]) - set("ab"):
                self.refused(InvalidContent, desk.run, "a", value)
        self.refused(InvalidContent, desk.run, "a", ("a" * 201,))
        self.refused(TooMany, desk.run, "a", ("a" * 41,), keeps=("limit", 40))
        self.refused(TooMany, desk.run, "b", ("a" * 11,), keeps=("limit", 2000))

    def test_objects(self):
        desk = desk_of(b=COPY, a=TURN)
        self.same([list(desk), [name for name in desk], len(desk), "a" in desk, "c" in desk], [["a", "b"]] * 2 + [
            2, True, False])
        self.same([list(desk.programs), list(desk.heads)], [["a", "b"], ["a", "b"]])
        self.assertEqual([desk["a"], desk.streams], [TURN, LINE])
        self.same([str(desk), str(Desk(PAIR))], ["desk of 2 programs, 0 pins", "desk of 0 programs, 0 pins"])
        for name in desk:
            desk.remove(name)
        self.same(list(desk), [])

    def test_equal(self):
        one, other = desk_of(a=COPY, b=TURN), desk_of(b=TURN, a=COPY)
        self.assertIs(one == other, True)
        one.enter("a", COPY)
        self.assertIs(one != other, False)
        for pins in ((("unlike", "a", "b"), ("equal", "a", COPY)), (("equal", "a", COPY), ("unlike", "a", "b"))):
            desk = one if pins[0][0] == "unlike" else other
            for pin in pins:
                desk.pin(pin)
        # The order of the pins counts.
        self.assertIs(one == other, False)
        other.undo(many=2)
        self.assertIs(one == other, False)
        one.undo(many=2)
        self.assertIs(one == other, True)
        other.enter("a", DOUBLE)
        self.assertIs(one == other, False)
        self.assertIs(Desk(LINE) == Desk(PAIR), False)
        for value in but():
            if not isinstance(value, Desk):
                self.assertIs(one == value, False)
                self.assertIs(one != value, True)

    def test_nothing_shared(self):
        desk = desk_of(a=COPY)
        spoil(desk.programs)
        spoil(desk.heads)
        self.assertEqual(state(desk), ({"a": COPY}, (), {"a": "a"}))
        told = [desk.heads, desk.heads]
        self.assertIsNot(*told)

    def test_refused(self):
        for value in but():
            if not isinstance(value, Streams):
                self.refused(InvalidStreams, Desk, value)


if __name__ == "__main__":
    unittest.main()
