"""The module pipes: programs one behind the other, beside each other, and for other streams."""

import copy
import itertools
import unittest

from fewersteps.base.streams import Streams
from fewersteps.books.places import is_right
from fewersteps.books.program import Program
from fewersteps.books.runs import fillings
from fewersteps.build.pipes import beside, drained, filled, only, pipe
from fewersteps.decide.alike import is_alike
from fewersteps.errors import InvalidOperation, InvalidProgram, InvalidStreams, InvalidWord, TooMany, UnknownName
from tests import oracle, slow_pipes
from tests.cases import Case
from tests.values import BARE, COPY, EARLY, EVERY, FLIP, LATE, LINE, LOOSE, LOST, NEST, SHUFFLE, SOUND, THREE
from tests.values import TOSS, but, long_program

TURN = COPY.exchanged("z", "a", "b")
BACK = TURN.renamed({"x": "z", "z": "w"})
BOTH = Streams((("p", "ab"), ("q", "c")), (("s", "ab"), ("t", "b"), ("u", "c")))
# It puts what it takes from p to s, the letters b also to t, and at the end of p what it takes from q to u.
SORT = Program(
    BOTH,
    (
        ("take", "p", {"a": 1, "b": 2, "end": 4}), ("put", "s", "a", 0), ("put", "s", "b", 3), ("put", "t", "b", 0),
        ("take", "q", {"c": 5, "end": 6}), ("put", "u", "c", 4), ("done",),
    ),
)
# It takes from both sources in turn, as long as it can, and puts one of two signs for what it takes.
ZIP = Program(
    BOTH,
    (
        ("take", "q", {"c": 1, "end": 6}), ("take", "p", {"a": 2, "b": 3}), ("either", (4, 5, 5)), ("put", "t", "b", 0),
        ("put", "s", "a", 0), ("put", "s", "b", 0), ("take", "p", {"end": 7}), ("done",),
    ),
)
# Some words of its source are lost.
PICKY = Program(
    LINE,
    (
        ("take", "x", {"a": 1, "end": 4}), ("either", (2, 3)), ("take", "x", {"b": 3, "a": 1}), ("put", "z", "b", 0),
        ("done",),
    ),
)
LINES = (COPY, TURN, TOSS, FLIP, LATE, NEST, LOST, PICKY)


def checked(case, program, streams, places):
    """The program has these streams and places, and is right and trimmed."""
    case.assertEqual(program.streams, streams)
    case.same(program.places, places)
    case.assertIs(program.is_trimmed(), True)
    case.assertTrue(is_right(streams, program.places, 80))


class TestExamples(Case):
    def test_examples(self):
        self.same(
            [
                str(pipe(TURN, "z", BACK, "z").streams), len(pipe(TURN, "z", BACK, "z")),
                is_alike(pipe(TURN, "z", BACK, "z"), COPY.renamed({"x": "x", "z": "w"})),
            ],
            ["x:ab > w:ab", 13, True],
        )
        self.same(
            [only(COPY, ()).places[1], str(drained(COPY, "y", "c")), len(filled(drained(COPY, "y", "c"), "x", "ab"))],
            [("either", (0,)), "program of 5 places, size 4", 7],
        )


class TestPipe(Case):
    def check(self, one, sink, other, source, most=3):
        at, to = one.streams.index_of(sink), other.streams.index_of(source)
        many = len(one.streams.sources)
        sources = one.streams.sources + other.streams.sources[:to] + other.streams.sources[to + 1:]
        streams = Streams(sources, one.streams.sinks[:at] + one.streams.sinks[at + 1:] + other.streams.sinks)
        found = pipe(one, sink, other, source)
        checked(self, found, streams, slow_pipes.pipe(one.places, sink, other.places, source, streams))
        for content in streams.contents(most):
            expected = {}
            for first, runs in oracle.fillings(one, content[:many]).items():
                rest = content[many:]
                behind = oracle.fillings(other, rest[:to] + (first[at],) + rest[to:])
                for second, times in behind.items():
                    filling = first[:at] + first[at + 1:] + second
                    expected[filling] = expected.get(filling, 0) + runs * times
            self.same(fillings(found, content), {filling: expected[filling] for filling in sorted(expected)})

    def test_lines(self):
        for one, other in itertools.product(LINES, repeat=2):
            if len(one) * len(other) <= 80:
                self.check(one, "z", other.renamed({"x": "v", "z": "w"}), "v")

    def test_names_of_what_is_left(self):
        # The joined streams have names of others, and of each other.
        self.check(TOSS, "z", PICKY.renamed({"x": "z", "z": "w"}), "z")
        self.check(TOSS, "z", PICKY.renamed({"x": "v", "z": "z"}), "v")
        self.check(TOSS.renamed({"x": "v", "z": "w"}), "w", PICKY.renamed({"x": "x", "z": "w"}), "x")
        self.check(PICKY.renamed({"x": "v", "z": "w"}), "w", COPY.renamed({"x": "w", "z": "z"}), "w")

    def test_other_streams_on_both_sides(self):
        for one, other in itertools.product((SORT, ZIP), LINES):
            if len(one) * len(other) <= 80:
                self.check(one, "s", other, "x")
                self.check(other, "z", one, "p")
        bare = Program(
            Streams((("p", "ab"), ("f", "c")), (("h", "b"),)),
            (
                ("take", "p", {"a": 0, "b": 1, "end": 2}), ("put", "h", "b", 0), ("take", "f", {"c": 3}),
                ("take", "f", {"c": 4, "end": 5}), ("take", "f", {"c": 3}), ("done",),
            ),
        )
        for one in (SORT, ZIP):
            self.check(one, "s", bare, "p", 4)
        for sign in "ab":
            self.check(bare.renamed({"p": "x", "f": "y", "h": "z"}), "z", one_sign(sign), "q", 4)

    def test_either_places_and_lost_runs(self):
        self.check(SHUFFLE, "z", PICKY.renamed({"x": "v", "z": "w"}), "v")
        self.check(LOOSE, "z", TOSS.renamed({"x": "v", "z": "w"}), "v")
        self.check(EARLY, "z", COPY.renamed({"x": "v", "z": "w"}), "v")
        self.check(LOST, "z", COPY.renamed({"x": "v", "z": "w"}), "v")
        self.check(COPY, "z", LOST.renamed({"x": "v", "z": "w"}), "v")
        self.same(pipe(COPY, "z", LOST.renamed({"x": "v", "z": "w"}), "v").places, (("take", "x", {}),))

    def test_places(self):
        self.same(
            pipe(EARLY, "z", Program.reading(Streams((("v", "ab"),), ())), "v").places,
            (
                ("either", (1,)), ("take", "x", {"a": 1, "end": 2}), ("take", "y", {"b": 2, "end": 3}),
                ("either", (4,)), ("done",),
            ),
        )

    def test_any_order(self):
        wide = Program.copying(Streams((("v", "ab"), ("g", "c")), (("w", "ab"),)), "v", "w")
        last = PICKY.renamed({"x": "c", "z": "d"})
        for one, other, third in itertools.product((COPY, TURN, PICKY), (COPY, TURN, PICKY), (COPY, TURN)):
            other = other.renamed({"x": "v", "z": "w"})
            third = third.renamed({"x": "c", "z": "d"})
            if len(one) * len(other) * len(third) > 80:
                left = pipe(one, "z", other, "v")
                right = pipe(other, "w", third, "c")
                if len(left) * len(third) > 80 or len(one) * len(right) > 80:
                    continue
            left = pipe(pipe(one, "z", other, "v"), "w", third, "c")
            self.assertIs(is_alike(left, pipe(one, "z", pipe(other, "w", third, "c"), "v")), True)
        short = Program(LINE, (("take", "x", {"a": 1, "end": 2}), ("put", "z", "b", 0), ("done",)))
        left = pipe(pipe(short, "z", wide, "v"), "w", last, "c")
        right = pipe(short, "z", pipe(wide, "w", last, "c"), "v")
        self.assertEqual([str(left.streams), left.streams], ["x:ab g:c > d:ab", right.streams])
        self.assertIs(is_alike(left, right), True)

    def test_eighty_places(self):
        reader = Program.reading(Streams((("v", "ab"),), (("w", "a"),)))
        self.assertEqual(len(reader), 2)
        found = pipe(long_program(40), "z", reader, "v")
        self.same(fillings(found, ("",)), {("",): 1})
        self.refused(TooMany, pipe, long_program(41), "z", reader, "v", keeps=("limit", 80))
        nothing = Program.nothing(reader.streams)
        self.assertEqual(len(pipe(long_program(80), "z", nothing, "v")), 1)
        # What is greater counts, not how many places there are behind.
        idle = Program(reader.streams, (("take", "v", {"a": 1}), ("take", "v", {})))
        self.refused(TooMany, pipe, long_program(41), "z", idle, "v", keeps=("limit", 80))

    def test_refused(self):
        other = COPY.renamed({"x": "v", "z": "w"})
        for value in but():
            if not isinstance(value, Program):
                self.refused(InvalidProgram, pipe, value, None, None, None)
                self.refused(InvalidProgram, pipe, COPY, "z", value, None)
            if value != "z":
                self.refused(UnknownName, pipe, COPY, value, None, None, keeps=("wanted", value))
            if value != "v":
                self.refused(UnknownName, pipe, COPY, "z", other, value, keeps=("wanted", value))
        self.refused(UnknownName, pipe, COPY, "x", other, "w", keeps=("wanted", "x"))
        self.refused(UnknownName, pipe, COPY, "z", other, "w", keeps=("wanted", "w"))

    def test_streams(self):
        # Other signs, equal names, too many sources, too many sinks.
        self.refused(InvalidOperation, pipe, COPY, "z", EARLY.renamed({"x": "v", "y": "y", "z": "w"}), "v")
        self.refused(InvalidOperation, pipe, COPY, "z", COPY.renamed({"x": "v", "z": "x"}), "v")
        self.refused(InvalidOperation, pipe, EARLY, "z", Program.reading(Streams((("v", "ab"), ("y", "a")), ())), "v")
        self.refused(InvalidOperation, pipe, SORT, "s", Program.reading(Streams((("v", "ab"),), (("t", "a"),))), "v")
        three = Program.reading(Streams((("v", "ab"), ("g", "a"), ("h", "a")), ()))
        self.refused(InvalidOperation, pipe, SORT, "s", three, "v")
        self.assertEqual(len(pipe(COPY, "z", three, "v").streams), 3)
        two = Program.reading(Streams((("v", "ab"),), (("g", "a"), ("h", "a"))))
        self.refused(InvalidOperation, pipe, SORT, "s", two, "v")
        # Ahead of too many places.
        self.refused(InvalidOperation, pipe, long_program(80), "z", COPY.renamed({"x": "v", "z": "x"}), "v")
        # The joined streams are gone, so that their names count for nothing.
        self.assertEqual(str(pipe(COPY, "z", TOSS.renamed({"x": "z", "z": "v"}), "z").streams), "x:ab > v:ab")

    def test_unchanged(self):
        places = copy.deepcopy([TOSS.places, BACK.places])
        self.assertEqual(pipe(TOSS, "z", BACK, "z"), pipe(TOSS, "z", BACK, "z"))
        self.assertEqual([TOSS.places, BACK.places], places)


def one_sign(sign):
    """A program whose source q has one sign, for which it puts this sign or nothing."""
    return Program(
        Streams((("q", "b"),), (("m", "ab"),)),
        (("take", "q", {"b": 1, "end": 3}), ("either", (0, 2)), ("put", "m", sign, 0), ("done",)),
    )


class TestBeside(Case):
    def check(self, one, other, most=3):
        found = beside(one, other)
        checked(self, found, one.streams + other.streams,
                slow_pipes.beside(one.places, other.places, one.streams + other.streams))
        many = len(one.streams.sources)
        for content in found.streams.contents(most):
            expected = {}
            for first, runs in oracle.fillings(one, content[:many]).items():
                for second, times in oracle.fillings(other, content[many:]).items():
                    expected[first + second] = runs * times
            self.same(fillings(found, content), {filling: expected[filling] for filling in sorted(expected)})

    def test_products(self):
        for one, other in itertools.product((*LINES, EARLY, SOUND), (COPY, TOSS, NEST, LOST, PICKY)):
            self.check(one, other.renamed({"x": "v", "z": "w"}))
        self.check(COPY, EARLY.renamed({"x": "v", "y": "y", "z": "w"}))
        self.check(SOUND, ZIP)

    def test_many_done_places(self):
        program = Program(
            BARE,
            (("take", "x", {"a": 1, "end": 2}), ("take", "x", {"a": 0, "end": 3}), ("done",), ("done",)),
        )
        self.same(
            beside(program, COPY.renamed({"x": "v", "z": "w"})).places,
            (
                ("take", "x", {"a": 1, "end": 2}), ("take", "x", {"a": 0, "end": 2}),
                ("take", "v", {"a": 3, "b": 4, "end": 5}), ("put", "w", "a", 2), ("put", "w", "b", 2), ("done",),
            ),
        )

    def test_eighty_places(self):
        other = long_program(40).renamed({"x": "v", "z": "w"})
        # The done place of the first program is none of the places behind.
        self.assertEqual(len(beside(long_program(40), other)), 79)
        self.refused(TooMany, beside, long_program(41), other, keeps=("limit", 80))
        self.refused(TooMany, beside, long_program(80), Program.nothing(BARE.renamed({"x": "v"})), keeps=("limit", 80))

    def test_refused(self):
        for value in but():
            if not isinstance(value, Program):
                self.refused(InvalidProgram, beside, value, None)
                self.refused(InvalidProgram, beside, value, COPY)
                self.refused(InvalidProgram, beside, COPY, value)
        self.refused(InvalidOperation, beside, COPY, COPY)
        self.refused(InvalidOperation, beside, COPY, SOUND)
        self.refused(InvalidOperation, beside, EVERY, SOUND)
        self.refused(InvalidOperation, beside, SORT, long_program(80))
        self.refused(InvalidOperation, beside, long_program(80), long_program(80))


class TestOnly(Case):
    def check(self, program, sinks, most=3):
        streams = Streams(program.streams.sources, tuple(pair for pair in program.streams.sinks if pair[0] in sinks))
        found = only(program, sinks)
        checked(self, found, streams, slow_pipes.only(program.places, sinks, streams))
        names = [name for name, _ in program.streams.sinks]
        for content in streams.contents(most):
            expected = {}
            for filling, runs in oracle.fillings(program, content).items():
                key = tuple(word for name, word in zip(names, filling) if name in sinks)
                expected[key] = expected.get(key, 0) + runs
            self.same(fillings(found, content), {filling: expected[filling] for filling in sorted(expected)})

    def test_sums(self):
        for program in (*LINES, SORT, ZIP, EARLY, SHUFFLE, LOOSE, SOUND, THREE):
            names = [name for name, _ in program.streams.sinks]
            for many in range(len(names) + 1):
                for sinks in itertools.combinations(names, many):
                    self.check(program, sinks, 2 if program == THREE else 3)
            self.assertEqual(only(program, tuple(names)), program.trimmed())

    def test_none(self):
        self.same(
            only(COPY, ()).places,
            (("take", "x", {"a": 1, "b": 2, "end": 3}), ("either", (0,)), ("either", (0,)), ("done",)),
        )
        self.assertEqual(only(long_program(80), ()).streams.sinks, ())
        self.assertEqual(len(only(long_program(80), ())), 80)

    def test_refused(self):
        for value in but():
            if not isinstance(value, Program):
                self.refused(InvalidProgram, only, value, None)
            if value != ():
                self.refused(InvalidOperation, only, COPY, value)
            self.refused(InvalidOperation, only, COPY, (value, "z"))
        for value in (("t", "s"), ("s", "s"), ("s", "p"), ("p",), ("s", "t", "u", "u"), ["s"], "s", "z", ("w",), {}, "",
                      {"s": 0}, (("s",),)):
            self.refused(InvalidOperation, only, SORT, value)


class TestDrained(Case):
    def check(self, program, name, signs, most=3):
        streams = Streams(program.streams.sources + ((name, signs),), program.streams.sinks)
        found = drained(program, name, signs)
        checked(self, found, streams, slow_pipes.drained(program.places, name, signs, streams))
        for content in streams.contents(most):
            self.same(fillings(found, content), oracle.fillings(program, content[:-1]))

    def test_drained(self):
        for program in (*LINES, EARLY, SHUFFLE, LOOSE, SOUND, SORT, ZIP):
            self.check(program, "v", "cd")
        self.check(SOUND, "ende", "a")

    def test_many_done_places(self):
        program = Program(
            BARE,
            (("take", "x", {"a": 1, "end": 2}), ("take", "x", {"a": 0, "end": 3}), ("done",), ("done",)),
        )
        self.same(
            drained(program, "v", "cd").places,
            (
                ("take", "x", {"a": 1, "end": 2}), ("take", "x", {"a": 0, "end": 3}),
                ("take", "v", {"c": 2, "d": 2, "end": 4}), ("take", "v", {"c": 3, "d": 3, "end": 4}), ("done",),
            ),
        )

    def test_eighty_places(self):
        self.assertEqual(len(drained(long_program(79), "v", "a")), 80)
        self.refused(TooMany, drained, long_program(80), "v", "a", keeps=("limit", 80))
        self.refused(InvalidStreams, drained, long_program(80), "x", "a")

    def test_refused(self):
        for value in but():
            if not isinstance(value, Program):
                self.refused(InvalidProgram, drained, value, None, None)
            if value not in ("a", "b", "ab", "take", "done"):
                self.refused(InvalidStreams, drained, COPY, value, "a")
            if value not in ("a", "b", "ab", "x", "z"):
                self.refused(InvalidStreams, drained, COPY, "y", value)
        self.refused(InvalidStreams, drained, EVERY, "y", "a")
        self.refused(InvalidStreams, drained, COPY, "x", "a")
        self.refused(InvalidStreams, drained, COPY, "z", "a")
        self.refused(InvalidStreams, drained, COPY, "y", "ba")
        self.assertEqual(len(drained(EARLY, "w", "a").streams.sources), 3)


class TestFilled(Case):
    def check(self, program, source, word, most=3):
        at = program.streams.index_of(source)
        streams = program.streams.without(source)
        found = filled(program, source, word)
        checked(self, found, streams, slow_pipes.filled(program.places, source, word, streams))
        for content in streams.contents(most):
            self.same(fillings(found, content), oracle.fillings(program, content[:at] + (word,) + content[at:]))

    def test_filled(self):
        for program in (EARLY, SHUFFLE, LOOSE, SORT, ZIP, EVERY, THREE):
            for source, signs in program.streams.sources:
                for many in range(4):
                    for word in ("".join(row) for row in itertools.product(signs[:2], repeat=many)):
                        self.check(program, source, word, 2)
        self.check(drained(PICKY, "v", "a"), "x", "aab")
        self.check(drained(LOST, "v", "a"), "x", "aab")

    def test_all_but_one(self):
        program = filled(filled(EVERY, "q", "ab"), "r", "zz")
        self.assertEqual(str(program.streams), "p:abcd > s:a t:abcd u:bcd")
        self.refused(InvalidOperation, filled, program, "p", "a")

    def test_eighty_places(self):
        program = drained(long_program(19), "v", "a")
        self.assertEqual(len(program), 20)
        # 20 places, and 4 or 5 numbers of signs.
        self.assertEqual(filled(program, "v", "aaa").streams, LINE)
        self.refused(TooMany, filled, program, "v", "aaaa", keeps=("limit", 80))
        self.refused(TooMany, filled, program, "v", "a" * 9000, keeps=("limit", 80))
        two = Program.reading(Streams((("x", "a"), ("y", "a")), ()))
        self.assertEqual(len(filled(two, "x", "a" * 25)), 28)
        self.refused(TooMany, filled, two, "x", "a" * 26, keeps=("limit", 80))
        # What is greater counts, not how many places there are behind.
        self.refused(TooMany, filled, Program(two.streams, (("take", "x", {}),)), "y", "a" * 80, keeps=("limit", 80))
        self.assertEqual(len(filled(Program(two.streams, (("take", "x", {}),)), "y", "a" * 79)), 1)

    def test_refused(self):
        for value in but():
            if not isinstance(value, Program):
                self.refused(InvalidProgram, filled, value, None, None)
            if value not in ("x", "y"):
                self.refused(UnknownName, filled, EARLY, value, None, keeps=("wanted", value))
            if value not in ("", "a"):
                self.refused(InvalidWord, filled, EARLY, "x", value)
        self.refused(UnknownName, filled, EARLY, "z", "a", keeps=("wanted", "z"))
        # No word comes ahead of no other source, and this ahead of too many places.
        self.refused(InvalidWord, filled, COPY, "x", "abc")
        self.refused(InvalidOperation, filled, COPY, "x", "ab")
        self.refused(InvalidOperation, filled, long_program(80), "x", "a" * 9000)

    def test_unchanged(self):
        places = copy.deepcopy(EARLY.places)
        self.assertEqual(filled(EARLY, "x", "aa"), filled(EARLY, "x", "aa"))
        self.assertEqual(drained(EARLY, "v", "ab"), drained(EARLY, "v", "ab"))
        self.assertEqual(only(EARLY, ()), only(EARLY, ()))
        self.assertEqual(EARLY.places, places)


if __name__ == "__main__":
    unittest.main()
