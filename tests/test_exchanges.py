"""The module exchanges."""

import itertools
import unittest

from fewersteps.base.streams import Streams
from fewersteps.books.places import is_right
from fewersteps.books.program import Program, made_program
from fewersteps.books.runs import fillings
from fewersteps.change.exchanges import exchange_row, is_exchange_row, possible_exchanges, with_exchange, with_exchanges
from fewersteps.decide.alike import is_alike
from fewersteps.errors import InvalidNumber, InvalidOperation, InvalidProgram, TooMany
from tests import slow_exchanges
from tests.cases import Case
from tests.values import BARE, COPY, EARLY, EVERY, FLIP, LATE, LINE, LOOSE, LOST, NEST, PAIR, PROGRAMS, SHUFFLE, SOUND
from tests.values import THREE, TOSS, WIDE, anything, but, long_program

BOTH = Streams((("x", "ab"), ("y", "b")), (("z", "ab"), ("w", "c")))
# Puts to two sinks, and an either place at which runs begin.
PUTS = Program(
    BOTH,
    (
        ("either", (1,)), ("take", "x", {"a": 2, "b": 4, "end": 6}), ("put", "z", "a", 3), ("put", "w", "c", 1),
        ("put", "w", "c", 5), ("put", "z", "b", 0), ("take", "y", {"b": 6, "end": 7}), ("done",),
    ),
)
# Takes of both sources behind each other; only some of those of y have entries for both.
TAKES = Program(
    BOTH,
    (
        ("take", "x", {"a": 1, "b": 2, "end": 3}), ("take", "y", {"b": 0}), ("take", "y", {"b": 4}),
        ("take", "y", {"b": 3, "end": 5}), ("put", "z", "a", 0), ("done",),
    ),
)
# Either places in either places, with two, three and four places altogether.
WAYS = Program(
    LINE,
    (
        ("take", "x", {"a": 1, "b": 4, "end": 7}), ("either", (2, 0, 3)), ("either", (0, 5)), ("either", (2, 6, 0)),
        ("either", (2, 2)), ("put", "z", "a", 0), ("put", "z", "b", 0), ("done",),
    ),
)
# Places 1 and 2 are equal, but y has ended at one of them alone; 3 and 4 are equal.
IDLE = Program(
    BOTH,
    (
        ("take", "y", {"b": 1, "end": 5}), ("either", (2, 3, 4)), ("take", "x", {}), ("take", "x", {"a": 3}),
        ("take", "x", {}), ("either", (6, 7, 7, 8)), ("take", "x", {}), ("take", "x", {"a": 7, "end": 9}),
        ("take", "x", {}), ("done",),
    ),
)
# Equal places, and a take that leads to equal puts, one of which is of no use.
SAME = Program(
    LINE,
    (
        ("take", "x", {"a": 1, "b": 2, "end": 5}), ("put", "z", "a", 3), ("put", "z", "a", 4),
        ("take", "x", {"a": 0, "end": 6}), ("take", "x", {"a": 0, "end": 6}), ("put", "z", "a", 6), ("done",),
    ),
)
MORE = (*PROGRAMS, PUTS, TAKES, WAYS, IDLE, SAME)
KINDS = ("advance", "copy", "cross", "delay", "flat", "join", "skip", "swap")


def candidates(program):
    """All tuples that have the form of an exchange with numbers that are not too great, but no turns."""
    places = range(len(program))
    for kind in ("advance", "cross", "delay", "skip", "swap"):
        yield from ((kind, p) for p in places)
    for kind in ("copy", "join", "flat"):
        yield from itertools.product((kind,), places, range(4) if kind == "flat" else places)


def turns(program):
    """All exchanges with `turn` and some tuples of the same form."""
    for p in range(len(program)):
        for many in range(5):
            yield from (("turn", p, order) for order in itertools.permutations(range(many)))
        yield from (("turn", p, order) for order in [(0, 0), (1, 2), (1, 1, 0), (0, 1, 3), (0, 0, 0)])


def loop(many):
    """A program of LINE with so many places, all of use, which takes its source at place 0 again and again."""
    puts = [("put", "z", "a", at + 1) for at in range(1, many - 1)]
    return made_program(LINE, (("take", "x", {"a": 0, "end": 1}), *puts, ("done",)))


class TestExamples(Case):
    def test_examples(self):
        self.same(
            [with_exchange(EARLY, ("delay", 0)).places[:3], len(with_exchange(EARLY, ("delay", 0)))],
            [(("take", "x", {"a": 1, "end": 2}), ("put", "z", "a", 3), ("put", "z", "a", 4)), 6],
        )
        self.same(
            list(possible_exchanges(EARLY)),
            [("copy", 0, 1), ("copy", 1, 1), ("copy", 1, 2), ("copy", 2, 2), ("copy", 2, 3), ("delay", 0)],
        )
        late = with_exchange(EARLY, ("delay", 0))
        for row in ((("advance", 0), ("join", 1, 2)), exchange_row(late, EARLY)):
            self.assertIs(is_exchange_row(late, EARLY, row), True)
        self.assertIs(is_exchange_row(EARLY, EARLY, ()), True)


class TestKinds(Case):
    def test_slow(self):
        for program in MORE:
            found = []
            for exchange in candidates(program):
                expected = slow_exchanges.behind(program, exchange)
                if expected is None:
                    self.refused(InvalidOperation, with_exchange, program, exchange)
                else:
                    found.append(exchange)
                    self.same(with_exchange(program, exchange).places, expected)
            self.same(list(possible_exchanges(program)), sorted(found))
            for exchange in turns(program):
                expected = slow_exchanges.behind(program, exchange)
                if expected is None:
                    self.refused(InvalidOperation, with_exchange, program, exchange)
                else:
                    self.same(with_exchange(program, exchange).places, expected)

    def test_all_kinds_are_tried(self):
        found = {exchange[0] for program in MORE for exchange in possible_exchanges(program)}
        self.assertEqual(sorted(found), sorted(KINDS))

    def test_behind(self):
        # Behind an exchange the program is right, trimmed, and alike to what it was.
        for program in MORE:
            for exchange in [*possible_exchanges(program), *turns(program)]:
                try:
                    other = with_exchange(program, exchange)
                except InvalidOperation:
                    continue
                self.assertTrue(is_right(program.streams, other.places, 80))
                self.assertIs(other.is_trimmed(), True)
                self.assertEqual(other.streams, program.streams)
                try:
                    self.assertIs(is_alike(program, other), True)
                except TooMany:
                    for content in itertools.islice(program.streams.contents(4), 60):
                        self.same(fillings(other, content), fillings(program, content))

    def test_delay(self):
        self.same(
            with_exchange(COPY, ("delay", 1)).places,
            (
                ("take", "x", {"a": 1, "b": 2, "end": 3}), ("take", "x", {"a": 4, "b": 5, "end": 6}),
                ("put", "z", "b", 0), ("done",), ("put", "z", "a", 1), ("put", "z", "a", 2), ("put", "z", "a", 3),
            ),
        )
        for p in (0, 3):
            self.refused(InvalidOperation, with_exchange, COPY, ("delay", p))
        # A put that leads to no take.
        self.refused(InvalidOperation, with_exchange, PUTS, ("delay", 2))

    def test_advance(self):
        late = with_exchange(EARLY, ("delay", 0))
        self.same(
            with_exchange(late, ("advance", 0)).places,
            (
                ("put", "z", "a", 1), ("take", "x", {"a": 2, "end": 3}), ("take", "x", {"a": 2, "end": 3}),
                ("take", "y", {"b": 3, "end": 4}), ("done",),
            ),
        )
        for p in range(4):
            # The puts are not equal, or there are others than puts.
            self.refused(InvalidOperation, with_exchange, COPY, ("advance", p))
        self.assertEqual(with_exchange(SAME, ("advance", 0))[0], ("put", "z", "a", 1))
        # Of no use, but all its moves lead to equal puts.
        self.same(with_exchange(LOST, ("advance", 0)).places, (("take", "x", {}),))
        # A take without moves.
        self.refused(InvalidOperation, with_exchange, IDLE, ("advance", 2))

    def test_swap(self):
        swapped = with_exchange(PUTS, ("swap", 2))
        self.assertEqual(swapped[2], ("put", "w", "c", 5))
        self.assertEqual(swapped[5], ("put", "z", "a", 1))
        self.assertEqual(with_exchange(swapped, ("swap", 2)), PUTS.trimmed())
        # Puts to the same sink are not put in the place of each other.
        self.refused(InvalidOperation, with_exchange, long_program(20), ("swap", 3))
        for p in (0, 1, 3, 5, 6, 7):
            self.refused(InvalidOperation, with_exchange, PUTS, ("swap", p))

    def test_cross(self):
        self.same(
            with_exchange(TAKES, ("cross", 0)).places,
            (
                ("take", "y", {"b": 1, "end": 2}), ("take", "x", {"a": 0, "b": 3, "end": 4}), ("take", "x", {"end": 5}),
                ("put", "z", "a", 0), ("take", "y", {"b": 4, "end": 5}), ("done",),
            ),
        )
        # A move to a take of the same source, or to itself, or no move.
        for program, p in ((TAKES, 3), (EARLY, 1), (IDLE, 2), (LATE, 0), (TAKES, 4), (THREE, 0)):
            self.refused(InvalidOperation, with_exchange, program, ("cross", p))
        # Some moves lead to a take of the other source, and some to a put; and all moves lead to a done place.
        for steps in (("b", "end"), ("end", "b")):
            puts = Program(
                PAIR,
                (
                    ("take", "y", dict(zip(steps, (1, 2)))), ("take", "x", {"a": 1}), ("put", "z", "a", 3),
                    ("take", "x", {"a": 3}),
                ),
            )
            self.refused(InvalidOperation, with_exchange, puts, ("cross", 0))
        last = Program(PAIR, (("take", "y", {"end": 1}), ("take", "x", {"end": 2}), ("done",)))
        self.refused(InvalidOperation, with_exchange, last, ("cross", 1))
        self.assertEqual(with_exchange(last, ("cross", 0))[0], ("take", "x", {"end": 1}))

    def test_cross_without_entries(self):
        program = Program(PAIR, (("take", "x", {"a": 1, "end": 2}), ("take", "y", {}), ("take", "y", {})))
        self.same(with_exchange(program, ("cross", 0)).places, (("take", "x", {}),))

    def test_copy(self):
        double = with_exchange(COPY, ("copy", 1, 0))
        self.assertEqual([len(double), double[1], double[4]], [5, ("put", "z", "a", 4), COPY[0]])
        # A place that leads to itself leads to a place like it was.
        self.same(
            with_exchange(EARLY, ("copy", 1, 1)).places,
            (
                ("put", "z", "a", 1), ("take", "x", {"a": 2, "end": 3}), ("take", "x", {"a": 1, "end": 3}),
                ("take", "y", {"b": 3, "end": 4}), ("done",),
            ),
        )
        # All places in an either place that are this one become one new place.
        self.same(with_exchange(TOSS, ("copy", 1, 2))[1], ("either", (3, 4, 3)))
        self.assertEqual(len(with_exchange(TOSS, ("copy", 1, 2))), 5)
        # Only what leads there can be copied; a place that is not reached any more is left out.
        self.assertEqual(with_exchange(COPY, ("copy", 0, 1)), COPY)
        for q in (2, 3):
            self.refused(InvalidOperation, with_exchange, COPY, ("copy", 1, q))

    def test_join(self):
        self.same(len(with_exchange(SAME, ("join", 3, 4))), 6)
        for p, q in ((4, 3), (3, 3), (1, 2), (0, 1)):
            self.refused(InvalidOperation, with_exchange, SAME, ("join", p, q))
        # Equal places at which other sources have ended.
        for p, q in ((2, 6), (4, 6), (2, 8)):
            self.assertEqual(IDLE[p], IDLE[q])
            self.refused(InvalidOperation, with_exchange, IDLE, ("join", p, q))
        self.assertEqual(with_exchange(IDLE, ("join", 2, 4)), IDLE.trimmed())
        self.assertEqual(with_exchange(IDLE, ("join", 6, 8)), IDLE.trimmed())

    def test_skip(self):
        self.same(
            with_exchange(PUTS, ("skip", 0)).places,
            (
                ("take", "x", {"a": 1, "b": 2, "end": 3}), ("put", "z", "a", 4), ("put", "w", "c", 5),
                ("take", "y", {"b": 3, "end": 6}), ("put", "w", "c", 0), ("put", "z", "b", 0), ("done",),
            ),
        )
        for program, p in ((PUTS, 1), (TOSS, 1), (SOUND, 1), (IDLE, 1)):
            self.refused(InvalidOperation, with_exchange, program, ("skip", p))
        # Of no use, but an either place with one place; the trimmed program is as it was.
        self.assertEqual(with_exchange(NEST, ("skip", 5)), NEST.trimmed())

    def test_flat(self):
        self.same(with_exchange(WAYS, ("flat", 1, 0))[1], ("either", (0, 4, 0, 5)))
        self.same(with_exchange(WAYS, ("flat", 3, 0))[5], ("either", (0, 6, 7, 0)))
        four = Program(LINE, (("either", (1, 1, 1, 2)), ("take", "x", {"end": 3}), ("either", (1,)), ("done",)))
        self.same(with_exchange(four, ("flat", 0, 3))[0], ("either", (1, 1, 1, 1)))
        # Five places would stand there; it is no either place; there is none with this index.
        for p, i in ((1, 2), (1, 1), (1, 3), (2, 0), (0, 0), (4, 2), (3, 3)):
            self.refused(InvalidOperation, with_exchange, WAYS, ("flat", p, i))
        self.same(with_exchange(WAYS, ("flat", 4, 1))[2], ("either", (4, 0, 6)))

    def test_turn(self):
        self.same(
            with_exchange(TOSS, ("turn", 1, (1, 0, 2))).places[1:],
            (("either", (3, 4, 4)), ("done",), ("put", "z", "b", 0), ("put", "z", "a", 0)),
        )
        self.assertEqual(with_exchange(TOSS, ("turn", 1, (0, 1, 2))), TOSS.trimmed())
        self.assertEqual(with_exchange(TOSS, ("turn", 1, (2, 1, 0))), TOSS.trimmed())
        wrong = [(0, 1), (0, 1, 2, 3), (0, 0, 1), (1, 2, 3), (), [0, 1, 2], None, 0, (0, 1, True), (False, 1, 2), "012"]
        for order in wrong:
            self.refused(InvalidOperation, with_exchange, TOSS, ("turn", 1, order))
        for p in (0, 2, 4, 5):
            self.refused(InvalidOperation, with_exchange, TOSS, ("turn", p, (0, 1, 2)))
        self.refused(InvalidOperation, with_exchange, COPY, ("turn", 3, ()))

    def test_no_use(self):
        # Nothing is left of programs without runs, whatever is changed.
        for exchange in possible_exchanges(LOST):
            self.assertEqual(with_exchange(LOST, exchange), Program.nothing(LINE))
        self.same(list(possible_exchanges(Program.nothing(LINE))), [])
        # Moves to places of no use count: this take has one to a put with another sign.
        program = Program(
            LINE, (("take", "x", {"a": 1, "b": 2, "end": 4}), ("put", "z", "a", 0), ("put", "z", "b", 3),
                   ("take", "x", {"a": 3}), ("put", "z", "a", 5), ("done",)),
        )
        self.refused(InvalidOperation, with_exchange, program, ("advance", 0))
        self.assertEqual(with_exchange(program.trimmed(), ("advance", 0))[0], ("put", "z", "a", 1))


class TestRows(Case):
    def test_rows(self):
        row = (("delay", 0), ("advance", 0), ("join", 1, 2))
        self.assertEqual(with_exchanges(EARLY, row[:1]), with_exchange(EARLY, row[0]))
        self.assertEqual(with_exchanges(EARLY, row), EARLY)
        self.assertEqual(with_exchanges(LOOSE, ()), LOOSE.trimmed())
        self.assertEqual(with_exchanges(LOST, ()), Program.nothing(LINE))
        for program in MORE:
            at_first = program
            for step in range(4):
                found = list(possible_exchanges(at_first))
                if found:
                    at_first = with_exchange(at_first, found[(7 * step) % len(found)])
            self.assertIs(at_first.is_trimmed() or at_first == program, True)

    def test_the_first_one_is_of_the_program_itself(self):
        # Place 3 of LOOSE has the number 1 in the trimmed program.
        self.assertEqual(LOOSE[3], ("put", "z", "b", 1))
        self.assertEqual(with_exchanges(LOOSE, (("delay", 3),)), with_exchange(LOOSE, ("delay", 3)))
        trimmed = with_exchanges(LOOSE, (("copy", 0, 5),))
        self.assertEqual(trimmed, LOOSE.trimmed())
        self.refused(InvalidOperation, with_exchanges, LOOSE, (("copy", 0, 5), ("copy", 0, 5)))

    def test_eighty_places(self):
        self.assertEqual(len(with_exchange(loop(79), ("copy", 0, 0))), 80)
        self.refused(TooMany, with_exchange, loop(80), ("copy", 0, 0), keeps=("limit", 80))
        self.assertEqual(with_exchange(loop(80), ("copy", 0, 1)), loop(80))
        self.assertEqual(len(list(possible_exchanges(loop(80)))), 80)
        self.refused(InvalidOperation, with_exchanges, loop(20), (("copy", 0, 0), ("join", 0, 1)))
        # The error of a later one that is no exchange comes ahead of too many places.
        self.refused(InvalidOperation, with_exchanges, loop(80), (("copy", 0, 0), ("skip", 0)))
        self.refused(InvalidOperation, with_exchanges, loop(80), (("copy", 0, 0), None))
        self.refused(TooMany, with_exchanges, loop(80), (("copy", 0, 0), ("copy", 0, 1)), keeps=("limit", 80))
        self.refused(TooMany, with_exchanges, loop(79), (("copy", 0, 0), ("copy", 0, 1), ("copy", 1, 0)),
                     keeps=("limit", 80))

    def test_too_many_on_the_way(self):
        # 81 places, and then 80 again.
        puts = [("put", "z", "a", at + 1) for at in range(3, 79)]
        places = (("either", (1, 2)), ("take", "x", {"a": 0, "end": 3}), ("either", (1, 1)), *puts, ("done",))
        program = made_program(LINE, places)
        self.assertEqual([len(program), program.is_trimmed()], [80, True])
        row = (("copy", 2, 1), ("join", 1, 4))
        short = Program(LINE, (*places[:3], ("done",)))
        self.assertEqual([len(with_exchange(short, row[0])), with_exchanges(short, row)], [5, short])
        self.assertIs(is_exchange_row(short, short, row), True)
        self.refused(TooMany, with_exchanges, program, row, keeps=("limit", 80))
        self.assertIs(is_exchange_row(program, program, row), False)
        self.assertIs(is_exchange_row(program, program, ()), True)


class TestSearch(Case):
    def test_none_one_and_two(self):
        for program in (EARLY, COPY, TOSS, PUTS, TAKES, NEST, LOOSE, IDLE, WAYS, SHUFFLE):
            self.check(program, program, 0)
            for exchange in list(possible_exchanges(program))[:12]:
                other = with_exchange(program, exchange)
                self.check(program, other, 1)
                for second in list(possible_exchanges(other))[:3]:
                    self.check(program, with_exchange(other, second), 2)

    def check(self, program, other, most):
        """There is a row with at most so many exchanges."""
        for limit in range(most, 3):
            row = exchange_row(program, other, most=limit)
            self.assertTrue(len(row) <= limit and all(exchange[0] in KINDS for exchange in row))
            self.assertIs(is_exchange_row(program, other, row), True)
            self.assertEqual(with_exchanges(program, row), other.trimmed())
        if program.trimmed() == other.trimmed():
            self.same(exchange_row(program, other, most=0), ())

    def test_not_there(self):
        self.assertEqual(len(exchange_row(COPY, LATE)), 2)
        self.refused(InvalidOperation, exchange_row, COPY, LATE, most=1)
        self.refused(InvalidOperation, exchange_row, COPY, TOSS)
        self.refused(InvalidOperation, exchange_row, COPY, EARLY)
        self.refused(InvalidOperation, exchange_row, Program.nothing(LINE), Program.nothing(BARE))
        late = with_exchange(EARLY, ("delay", 0))
        self.refused(InvalidOperation, exchange_row, late, EARLY, most=1)
        self.refused(InvalidOperation, exchange_row, EARLY, late, most=0)
        self.assertEqual(exchange_row(EARLY, late, most=1), (("delay", 0),))
        # A turn would lead there, but no other exchanges.
        turned = with_exchange(TOSS, ("turn", 1, (1, 0, 2)))
        self.refused(InvalidOperation, exchange_row, TOSS, turned)
        self.assertIs(is_exchange_row(TOSS, turned, (("turn", 1, (1, 0, 2)),)), True)

    def test_untrimmed(self):
        self.same(exchange_row(LOOSE, LOOSE), ())
        self.same(exchange_row(LOOSE, LOOSE.trimmed(), most=0), ())
        self.same(exchange_row(LOST, Program.nothing(LINE)), ())

    def test_is_exchange_row(self):
        long = (("delay", 0), ("advance", 0), ("join", 1, 2)) * 5
        self.assertIs(is_exchange_row(EARLY, EARLY, long), True)
        self.assertIs(is_exchange_row(EARLY, EARLY, long[:-1]), False)
        for value in [*anything(), list(long), (("delay", 0),), (("delay", False),), (("delay", 0, 0),), (("delay",),)]:
            self.assertIs(is_exchange_row(EARLY, EARLY, value), value == () and type(value) is tuple)
        self.assertIs(is_exchange_row(EARLY, LATE, ()), False)
        self.assertIs(is_exchange_row(COPY, FLIP, ()), False)
        self.assertIs(is_exchange_row(Program.nothing(LINE), Program.nothing(BARE), ()), False)

    def test_twelve_places(self):
        self.same(exchange_row(loop(12), loop(12)), ())
        self.assertEqual(exchange_row(loop(12), with_exchange(loop(12), ("copy", 0, 0))), (("copy", 0, 0),))
        self.refused(TooMany, exchange_row, loop(13), loop(13), keeps=("limit", 12))
        self.refused(TooMany, exchange_row, loop(13), COPY, most=0, keeps=("limit", 12))
        self.refused(TooMany, exchange_row, loop(13), EARLY, keeps=("limit", 12))
        # The other program can have more.
        self.refused(InvalidOperation, exchange_row, loop(12), loop(80))
        # What is of no use counts, too.
        takes = [("take", "x", {"a": at + 1}) for at in range(3, 12)]
        idle = Program(LINE, (("either", (1, 3)), ("take", "x", {"end": 2}), ("done",), *takes, ("take", "x", {})))
        self.assertEqual([len(idle), len(idle.trimmed())], [13, 3])
        self.refused(TooMany, exchange_row, idle, idle, keeps=("limit", 12))
        self.same(exchange_row(idle.trimmed(), idle), ())


class TestRefused(Case):
    def test_program(self):
        for value in anything():
            if isinstance(value, Program):
                continue
            self.refused(InvalidProgram, with_exchange, value, None)
            self.refused(InvalidProgram, with_exchanges, value, None)
            self.refused(InvalidProgram, exchange_row, value, value, most=7)
            self.refused(InvalidProgram, exchange_row, value, COPY)
            self.refused(InvalidProgram, exchange_row, loop(12), value, most=7)
            self.refused(InvalidProgram, is_exchange_row, value, COPY, None)
            self.refused(InvalidProgram, is_exchange_row, COPY, value, None)
            found = possible_exchanges(value)
            self.refused(InvalidProgram, next, found)

    def test_exchange(self):
        wrong = [
            ("delay",), ("delay", 1, 1), ("delay", True), ("delay", None), ("delay", -1), ("delay", 4), ("delay", "1"),
            ["delay", 1], ("Delay", 1), ("", 1), (None, 1), ("copy", 1), ("copy", 1, 0, 0), ("copy", 1, False),
            ("copy", 1, -4), ("copy", 1, 4), ("copy", 10 ** 70, 0), ("join", 0, True), ("flat", 1), ("turn", 1), (),
            (1,), ("copy", 1, None), ("copy", (1,), 0), (["delay"], 1), ("flat", 0, None), ("turn", 0, 1, 2), ("go", 1),
        ]
        for value in wrong + anything():
            self.refused(InvalidOperation, with_exchange, COPY, value)
            self.refused(InvalidOperation, with_exchanges, COPY, (value,))
            if value != ("copy", 1, 4):
                self.refused(InvalidOperation, with_exchanges, COPY, (("copy", 1, 0), value))
            self.refused(InvalidOperation, with_exchanges, COPY, [("copy", 1, 0)])
            self.assertIs(is_exchange_row(COPY, COPY, (value,)), False)
            if value != ():
                self.refused(InvalidOperation, with_exchanges, COPY, value)
        self.assertEqual(len(with_exchange(COPY, ("copy", 1, 0))), 5)

    def test_numbers(self):
        # Numbers are not counted from the end, and True is not 1.
        for program in MORE:
            for exchange in possible_exchanges(program):
                for at in range(1, len(exchange)):
                    number = exchange[at]
                    wrong = [number - len(program), number - 4, number + len(program), number + 4, -1, str(number), None]
                    wrong.extend([bool(number)] if number < 2 else [])
                    for value in wrong:
                        other = (*exchange[:at], value, *exchange[at + 1:])
                        if type(value) is not int or other not in candidates(program):
                            self.refused(InvalidOperation, with_exchange, program, other)
        for exchange in (("join", 0, 4), ("join", 3, 4), ("copy", 0, 4), ("flat", 0, 4)):
            self.refused(InvalidOperation, with_exchange, COPY, exchange)
        self.refused(InvalidOperation, with_exchange, TOSS, ("go", 1, (0, 1, 2)))

    def test_most(self):
        for value in but(0, 1, 2) + [3, -1]:
            self.refused(InvalidNumber, exchange_row, COPY, COPY, most=value, keeps=("given", value))
            self.refused(InvalidNumber, exchange_row, COPY, EARLY, most=value, keeps=("given", value))
            self.refused(InvalidNumber, exchange_row, loop(13), EARLY, most=value, keeps=("given", value))
        self.refused(TypeError, exchange_row, COPY, COPY, 2)
        for value in (0, 1, 2):
            self.same(exchange_row(COPY, COPY, most=value), ())

    def test_unchanged(self):
        for program in MORE:
            self.unchanged(lambda at: list(possible_exchanges(at)), program)
            for exchange in list(possible_exchanges(program))[:5]:
                self.unchanged(lambda one, two: with_exchange(one, two).places, program, exchange)
                self.unchanged(is_exchange_row, program, program, (exchange,))

    def test_wide(self):
        self.same(list(possible_exchanges(EVERY))[0], ("copy", 0, 0))
        self.assertEqual(WIDE, EVERY.streams)


if __name__ == "__main__":
    unittest.main()
