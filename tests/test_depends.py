"""The module depends: doubled programs, what sinks depend on, and what can be exchanged."""

import itertools
import unittest

from fewersteps.base.streams import Streams
from fewersteps.books.places import is_right
from fewersteps.books.program import Program, is_places, made_program
from fewersteps.books.runs import fillings
from fewersteps.build.pipes import drained, only
from fewersteps.decide.alike import is_alike
from fewersteps.errors import InvalidOperation, InvalidProgram, InvalidStreams, TooMany, UnknownName
from fewersteps.use.depends import blind_signs, constant, copies, dependence, depends, doubled, exchangeable
from fewersteps.use.depends import is_dependence
from tests import oracle
from tests.cases import Case
from tests.test_exchanges import IDLE, PUTS, SAME, TAKES, WAYS
from tests.test_pipes import PICKY, SORT, ZIP
from tests.values import BARE, COPY, EARLY, EVERY, FLIP, LATE, LINE, LOOSE, LOST, NEST, PAIR, SHUFFLE, SOUND, THREE
from tests.values import TOSS, WIDE, anything, but, long_program, ways_program

TINY = Streams((("x", "a"),), (("z", "a"), ("w", "b")))
# It tells whether there is an a among the signs of x, and how many signs of y there are.
TELL = Program(
    Streams((("x", "ab"), ("y", "a")), (("s", "a"), ("t", "ab"))),
    (
        ("take", "x", {"a": 1, "b": 0, "end": 3}), ("put", "s", "a", 2), ("take", "x", {"a": 2, "b": 2, "end": 3}),
        ("take", "y", {"a": 4, "end": 5}), ("put", "t", "b", 3), ("done",),
    ),
)
PROGRAMS = (COPY, TOSS, FLIP, LATE, NEST, LOST, PICKY, EARLY, SHUFFLE, LOOSE, ZIP, SORT, TELL, PUTS, TAKES, WAYS, SAME)


def summed(program, sink, content):
    """A dict from the words of a sink to the sums of the numbers, for a content."""
    at = program.streams.index_of(sink)
    total = {}
    for filling, runs in oracle.fillings(program, content).items():
        total[filling[at]] = total.get(filling[at], 0) + runs
    return total


def unlike(program, sink, source, most):
    """All tuples of two contents, with at most so many signs, and a word that show a dependence."""
    at = program.streams.index_of(source)
    contents = list(program.streams.contents(most))
    sums = {content: summed(program, sink, content) for content in contents}
    for one, other in itertools.permutations(contents, 2):
        if one[:at] + one[at + 1:] == other[:at] + other[at + 1:]:
            for word in {**sums[one], **sums[other]}:
                if sums[one].get(word, 0) != sums[other].get(word, 0):
                    yield (one, other, word)


def pairs(program):
    """All pairs of a sink and a source."""
    return [(sink, source) for sink, _ in program.streams.sinks for source, _ in program.streams.sources]


class TestExamples(Case):
    def test_examples(self):
        self.same(
            [
                depends(EARLY, "z", "x"), depends(COPY, "z", "x"),
                is_dependence(COPY, "z", "x", (("",), ("a",), "a")), len(doubled(COPY, "x", "y")[1]),
            ],
            [False, True, True, 5],
        )
        self.same(
            [
                copies(COPY), copies(EARLY), blind_signs(COPY, "x"), blind_signs(Program.reading(LINE), "x"),
                exchangeable(Program.reading(PAIR)), constant(EARLY, "z"), constant(COPY, "z"),
            ],
            [(("x", "z"),), (), ("a", "b"), ("ab",), (("x",), ("y",), ("z",)), "a", None],
        )


class TestDoubled(Case):
    def test_places(self):
        self.same([program.places for program in doubled(COPY, "x", "y")], [
            (
                ("take", "x", {"a": 1, "b": 2, "end": 3}), ("put", "z", "a", 0), ("put", "z", "b", 0),
                ("take", "y", {"a": 3, "b": 3, "end": 4}), ("done",),
            ),
            (
                ("take", "y", {"a": 1, "b": 2, "end": 3}), ("put", "z", "a", 0), ("put", "z", "b", 0),
                ("take", "x", {"a": 3, "b": 3, "end": 4}), ("done",),
            ),
        ])

    def test_all(self):
        for program in (*PROGRAMS, SOUND):
            for source, signs in program.streams.sources:
                one, other = doubled(program, source, "v")
                self.assertEqual(one, drained(program, "v", signs))
                self.assertEqual(one.streams, other.streams)
                self.assertTrue(is_right(other.streams, other.places, 80))
                turn = {source: "v", "v": source}
                for place, behind in zip(one.places, other.places):
                    if place[0] == "take":
                        place = ("take", turn.get(place[1], place[1]), place[2])
                    self.same(place, behind)
                self.assertEqual(len(one), len(other))
                at = program.streams.index_of(source)
                for content in one.streams.contents(3):
                    self.same(fillings(one, content), oracle.fillings(program, content[:-1]))
                    own = content[:at] + content[-1:] + content[at + 1:-1]
                    self.same(fillings(other, content), oracle.fillings(program, own))

    def test_refused(self):
        for value in but():
            if not isinstance(value, Program):
                self.refused(InvalidProgram, doubled, value, None, None)
            if value != "x":
                self.refused(UnknownName, doubled, COPY, value, None, keeps=("wanted", value))
            if value not in ("a", "b", "ab", "take", "done"):
                self.refused(InvalidStreams, doubled, COPY, "x", value)
        self.refused(UnknownName, doubled, COPY, "z", "y", keeps=("wanted", "z"))
        for name in ("x", "z", "end", "Y"):
            self.refused(InvalidStreams, doubled, COPY, "x", name)
        self.refused(InvalidStreams, doubled, EVERY, "p", "y")
        self.refused(InvalidStreams, doubled, long_program(80), "x", "x")
        self.refused(TooMany, doubled, long_program(80), "x", "y", keeps=("limit", 80))
        self.assertEqual(len(doubled(long_program(79), "x", "y")[1]), 80)


class TestDepends(Case):
    def test_slow(self):
        done = 0
        for program in PROGRAMS:
            for sink, source in pairs(program):
                expected = next(unlike(program, sink, source, 3), None)
                try:
                    told = depends(program, sink, source)
                except TooMany as error:
                    self.assertEqual(error.limit, 20000)
                    one, other = [only(found, (sink,)) for found in doubled(program, source, "v")]
                    self.assertRaises(TooMany, is_alike, one, other)
                    continue
                done += 1
                self.assertIs(told, expected is not None)
                if told:
                    found = dependence(program, sink, source)
                    self.assertIs(is_dependence(program, sink, source, found), True)
                    self.check(program, sink, source, found)
                else:
                    self.refused(InvalidOperation, dependence, program, sink, source)
        self.assertGreater(done, 15)

    def check(self, program, sink, source, found):
        """The dependence is one, by plain sums."""
        at = program.streams.index_of(source)
        one, other, word = found
        self.assertNotEqual(one[at], other[at])
        self.assertEqual(one[:at] + one[at + 1:], other[:at] + other[at + 1:])
        sums = [summed(program, sink, content).get(word, 0) for content in (one, other)]
        self.assertNotEqual(*sums)

    def test_tiny_programs(self):
        found = set()
        for many, ways, stride in ((2, 2, 1), (3, 2, 7)):
            places = oracle.all_places(TINY.sources, TINY.sinks, many, ways)
            for table in itertools.islice(itertools.product(places, repeat=many), 0, None, stride):
                if is_places(TINY, table):
                    program = Program(TINY, table)
                    for sink in ("z", "w"):
                        expected = next(unlike(program, sink, "x", 4), None) is not None
                        self.assertIs(depends(program, sink, "x"), expected)
                        found.add((sink, expected))
        self.assertEqual(len(found), 4)

    def test_told(self):
        self.same(
            [[depends(TELL, sink, source) for sink, source in pairs(TELL)]], [[True, False, False, True]],
        )
        # It is not known which sign was put first, but how many, and the sink depends on both sources.
        self.same([depends(SHUFFLE, "z", "x"), depends(SHUFFLE, "z", "y")], [True, True])
        # A content without runs has sums of 0, so that a sink can depend on what is lost alone.
        fussy = Program(LINE, (("take", "x", {"a": 0, "end": 1}), ("done",)))
        self.same([depends(fussy, "z", "x"), constant(fussy, "z")], [True, ""])
        self.same([depends(Program.nothing(LINE), "z", "x"), depends(LOST, "z", "x")], [False, False])

    def test_differs_first_at_a_long_word(self):
        # A word of six signs is told apart from all other ones.
        places = [("take", "x", {"a": at + 1, "end": 8}) for at in range(6)]
        places.extend([("take", "x", {"a": 7, "end": 9}), ("take", "x", {"a": 7, "end": 8}), ("done",),
                       ("put", "z", "a", 8)])
        streams = Streams((("x", "a"),), (("z", "a"),))
        program = Program(streams, tuple(places))
        self.assertIs(depends(program, "z", "x"), True)
        one, other, word = dependence(program, "z", "x")
        self.assertIn("aaaaaa", one + other)
        self.assertIs(is_dependence(program, "z", "x", (one, other, word)), True)
        self.assertIs(is_dependence(program, "z", "x", (("a" * 6,), ("a" * 7,), "a")), True)
        self.assertIs(is_dependence(program, "z", "x", (("a" * 5,), ("a" * 7,), "a")), False)

    def test_judge(self):
        for program in (COPY, TOSS, PICKY, TELL, SHUFFLE):
            for sink, source in pairs(program):
                right = set(unlike(program, sink, source, 2))
                contents = list(program.streams.contents(2))
                words = ["", "a", "b", "ab", "ba", "bb", "aab"]
                for value in itertools.product(contents, contents, words):
                    self.assertIs(is_dependence(program, sink, source, value), value in right)

    def test_words_of_any_length(self):
        self.assertIs(is_dependence(COPY, "z", "x", (("a" * 900,), ("a" * 901,), "a" * 901)), True)
        self.assertIs(is_dependence(COPY, "z", "x", (("a" * 900,), ("a" * 901,), "a" * 902)), False)

    def test_other_sinks_are_added_up(self):
        # The sink t gets either sign, whatever x is, but not with the same words of s.
        streams = Streams((("x", "ab"),), (("s", "ab"), ("t", "ab")))
        program = Program(
            streams,
            (
                ("take", "x", {"a": 1, "b": 2, "end": 7}), ("either", (3, 4)), ("either", (5, 6)), ("put", "s", "a", 8),
                ("put", "s", "b", 9), ("put", "s", "b", 8), ("put", "s", "a", 9), ("done",), ("put", "t", "a", 10),
                ("put", "t", "b", 10), ("take", "x", {"a": 10, "b": 10, "end": 7}),
            ),
        )
        for value in ((("a",), ("b",), "a"), (("a",), ("b",), "b"), (("a",), ("ba",), "b")):
            self.assertIs(is_dependence(program, "t", "x", value), False)
        self.assertIs(is_dependence(program, "t", "x", (("",), ("b",), "b")), True)
        self.assertIs(depends(program, "t", "x"), True)

    def test_every_value(self):
        for value in anything():
            self.assertIs(is_dependence(COPY, "z", "x", value), False)
        right = (("",), ("a",), "a")
        self.assertIs(is_dependence(COPY, "z", "x", right), True)
        for value in (list(right), right[:2], right + (1,), ("", "a", "a"), (("",), ("a",), ("a",)),
                      (("",), ["a"], "a"), (("",), ("c",), "c"), (("",), ("a", ""), "a"), (("a",), ("a",), "a"),
                      (("",), ("a",), "c"),
                      (("",), ("a",), None)):
            self.assertIs(is_dependence(COPY, "z", "x", value), False)
        # The contents differ in another source's word, or in both.
        self.assertIs(is_dependence(SHUFFLE, "z", "x", (("a", ""), ("", ""), "a")), True)
        self.assertIs(is_dependence(SHUFFLE, "z", "y", (("a", ""), ("", ""), "a")), False)
        self.assertIs(is_dependence(SHUFFLE, "z", "x", (("a", "b"), ("", ""), "ab")), False)

    def test_three_sources(self):
        for call in (depends, dependence):
            self.refused(TooMany, call, EVERY, "s", "p", keeps=("limit", 2))
        # The judge has no limit.
        self.assertIs(is_dependence(THREE, "s", "p", (("a", "b", ""), ("", "b", ""), "a")), True)
        self.assertIs(is_dependence(THREE, "s", "p", (("a", "b", ""), ("", "b", ""), "")), False)
        found = list(unlike(THREE, "s", "p", 2))
        self.assertGreater(len(found), 0)
        self.assertTrue(all(is_dependence(THREE, "s", "p", value) for value in found))
        self.refused(UnknownName, depends, EVERY, "p", "p", keeps=("wanted", "p"))

    def test_limits(self):
        many = made_program(
            Streams((("x", "a"),), (("z", "a"),)), ways_program(20001).places,
        )
        for call in (depends, dependence):
            # One program twice, with another source: as many runs, each of them twice.
            self.refused(TooMany, call, many, "z", "x", keeps=("limit", 20000))
            # A program of eighty places cannot be doubled.
            self.refused(TooMany, call, long_program(80), "z", "x", keeps=("limit", 80))
        self.assertIs(is_dependence(many, "z", "x", (("",), ("a",), "")), True)
        self.assertIs(is_dependence(long_program(80), "z", "x", (("",), ("a",), "ba" * 39)), True)

    def test_refused(self):
        for call, rest in ((depends, ()), (dependence, ()), (is_dependence, (None,))):
            for value in but():
                if not isinstance(value, Program):
                    self.refused(InvalidProgram, call, value, None, None, *rest)
                if value != "z":
                    self.refused(UnknownName, call, COPY, value, None, *rest, keeps=("wanted", value))
                if value != "x":
                    self.refused(UnknownName, call, COPY, "z", value, *rest, keeps=("wanted", value))
            self.refused(UnknownName, call, COPY, "x", "z", *rest, keeps=("wanted", "x"))
            self.refused(UnknownName, call, COPY, "z", "z", *rest, keeps=("wanted", "z"))

    def test_names_of_the_new_source(self):
        # All names that are one letter long may be taken.
        names = Streams((("a", "a"), ("b", "a")), (("c", "a"), ("d", "a"), ("e", "a")))
        program = Program(
            names,
            (
                ("take", "a", {"a": 1, "end": 2}), ("put", "d", "a", 0), ("take", "b", {"a": 3, "end": 4}),
                ("put", "e", "a", 2), ("done",),
            ),
        )
        told = {pair: depends(program, *pair) for pair in itertools.product("cde", "ab")}
        self.assertEqual([pair for pair in told if told[pair]], [("d", "a"), ("e", "b")])

    def test_unchanged(self):
        self.unchanged(depends, COPY, "z", "x")
        self.unchanged(dependence, TELL, "t", "y")
        self.unchanged(is_dependence, COPY, "z", "x", (("",), ("a",), "a"))


class TestCopies(Case):
    def test_slow(self):
        for program in (COPY, LATE, TOSS, EARLY, PICKY, ZIP, SORT, TELL, LOOSE):
            expected = []
            for source, signs in program.streams.sources:
                for sink, own in program.streams.sinks:
                    at = program.streams.index_of(source)
                    contents = list(program.streams.contents(4))
                    if set(signs) <= set(own) and all(
                            summed(program, sink, content) == {content[at]: 1} for content in contents):
                        expected.append((source, sink))
            self.same(copies(program), tuple(expected))

    def test_order(self):
        streams = Streams((("x", "a"), ("y", "b")), (("t", "ab"), ("s", "abc"), ("r", "a")))
        program = Program(
            streams,
            (
                ("take", "x", {"a": 1, "end": 2}), ("put", "r", "a", 5), ("take", "y", {"b": 3, "end": 4}),
                ("put", "t", "b", 2), ("done",), ("put", "s", "a", 0),
            ),
        )
        self.same(copies(program), (("x", "s"), ("x", "r"), ("y", "t")))
        self.same(copies(SORT), (("p", "s"), ("q", "u")))
        self.same(copies(Program.nothing(LINE)), ())

    def test_refused(self):
        for value in but():
            if not isinstance(value, Program):
                self.refused(InvalidProgram, copies, value)
        many = made_program(Streams((("x", "a"),), (("z", "a"),)), ways_program(20001).places)
        self.refused(TooMany, copies, many, keeps=("limit", 20000))
        # No sink has all signs of the source, so that no runs are looked at.
        other = made_program(Streams((("x", "a"),), (("z", "b"),)), ways_program(20001).places)
        self.same(copies(other), ())
        self.same(copies(ways_program(20001)), ())
        self.refused(TooMany, copies, long_program(80), keeps=("limit", 20000))


class TestClasses(Case):
    def test_signs(self):
        wide = Streams((("x", "abcd"),), (("z", "ab"),))
        # The signs a and c do the same, and so do b and d, but a and b do not.
        program = Program(
            wide,
            (
                ("take", "x", {"a": 1, "b": 0, "c": 1, "d": 0, "end": 2}), ("put", "z", "a", 0), ("done",),
            ),
        )
        self.same([blind_signs(program, "x"), blind_signs(program, "z")], [("ac", "bd"), ("a", "b")])
        self.same(blind_signs(Program.reading(wide), "x"), ("abcd",))
        self.same(blind_signs(Program.nothing(wide), "x"), ("abcd",))
        self.same(blind_signs(TOSS, "x"), ("ab",))
        # Unlike places, but alike programs behind the exchange.
        lazy = Program(LINE, (("take", "x", {"a": 1, "b": 0, "end": 2}), ("take", "x", {"a": 1, "b": 1, "end": 3}),
                              ("done",), ("done",)))
        self.assertNotEqual(lazy, lazy.exchanged("x", "a", "b"))
        self.same(blind_signs(lazy, "x"), ("ab",))

    def test_signs_by_hand(self):
        for program in (COPY, TOSS, FLIP, LATE, PICKY, EARLY, SHUFFLE, ZIP, SORT, TELL):
            for name in program.streams.names:
                signs = program.streams.signs_of(name)
                expected = {}
                for sign in signs:
                    first = next(other for other in signs if self.blind(program, name, other, sign))
                    expected[first] = expected.get(first, "") + sign
                self.same(blind_signs(program, name), tuple(expected.values()))

    def blind(self, program, name, one, other):
        """Whether the two signs can be exchanged, by the fillings of short contents."""
        turned = program.exchanged(name, one, other)
        contents = list(program.streams.contents(4))
        return all(oracle.fillings(program, content) == oracle.fillings(turned, content) for content in contents)

    def test_streams(self):
        self.same(exchangeable(EARLY), (("x",), ("y",), ("z",)))
        same = Streams((("x", "a"), ("y", "a")), (("z", "ab"), ("w", "ab")))
        self.same(exchangeable(Program.reading(same)), (("x", "y"), ("z", "w")))
        copying = Program.copying(same, "y", "z")
        self.same(exchangeable(copying), (("x",), ("y",), ("z",), ("w",)))
        # It puts each sign of both sources to both sinks.
        both = Program(
            same,
            (
                ("take", "x", {"a": 1, "end": 3}), ("put", "w", "a", 2), ("put", "z", "a", 0),
                ("take", "y", {"a": 4, "end": 6}), ("put", "z", "a", 5), ("put", "w", "a", 3), ("done",),
            ),
        )
        self.same(exchangeable(both), (("x", "y"), ("z", "w")))
        half = both.with_place(1, ("put", "w", "b", 2))
        self.same(exchangeable(half), (("x",), ("y",), ("z",), ("w",)))
        # Three sources, of which the first one and the last one can be exchanged.
        three = Streams((("p", "ab"), ("q", "ab"), ("r", "ab")), (("s", "b"),))
        program = Program(
            three,
            (
                ("take", "p", {"a": 0, "b": 0, "end": 1}), ("take", "q", {"a": 2, "b": 1, "end": 3}),
                ("put", "s", "b", 1), ("take", "r", {"a": 3, "b": 3, "end": 4}), ("done",),
            ),
        )
        self.same(exchangeable(program), (("p", "r"), ("q",), ("s",)))
        self.same(exchangeable(EVERY), (("p",), ("q",), ("r",), ("s",), ("t",), ("u",)))
        self.same(exchangeable(Program.reading(three)), (("p", "q", "r"), ("s",)))

    def test_limit(self):
        plain = ways_program(20001)
        streams = Streams((("x", "ab"), ("y", "ab")), (("z", "ab"), ("w", "ab")))
        moved = Program(streams, (("take", "x", {"end": 1}), ("take", "y", {"end": 2}), ("done",)))
        # The places are equal behind an exchange of the signs, so that no runs are looked at.
        self.same(blind_signs(moved, "x"), ("ab",))
        self.same(blind_signs(plain, "x"), ("a",))
        many = made_program(
            Streams((("x", "ab"),), (("z", "ab"),)),
            tuple(
                ("put", "z", "a", len(plain)) if place == ("done",) else place for place in plain.places
            ) + (("done",),),
        )
        self.same(blind_signs(many, "x"), ("ab",))
        self.refused(TooMany, blind_signs, many, "z", keeps=("limit", 20000))
        twins = Streams((("x", "ab"),), (("z", "ab"), ("w", "ab")))
        self.refused(TooMany, exchangeable, made_program(twins, many.places), keeps=("limit", 20000))
        self.same(exchangeable(many), (("x",), ("z",)))
        self.same(exchangeable(made_program(Streams((("x", "ab"),), (("z", "ab"), ("w", "abc"))), many.places)),
                  (("x",), ("z",), ("w",)))

    def test_refused(self):
        for value in but():
            if not isinstance(value, Program):
                self.refused(InvalidProgram, blind_signs, value, None)
                self.refused(InvalidProgram, exchangeable, value)
            if value not in ("x", "z"):
                self.refused(UnknownName, blind_signs, COPY, value, keeps=("wanted", value))


class TestConstant(Case):
    def test_slow(self):
        for program in (*PROGRAMS, THREE, EVERY, IDLE):
            for sink, _ in program.streams.sinks:
                words = set()
                for content in itertools.islice(program.streams.contents(5), 300):
                    words |= set(summed(program, sink, content))
                self.same(constant(program, sink), words.pop() if len(words) == 1 else None)

    def test_tiny_programs(self):
        found = set()
        for many, ways, stride in ((1, 1, 1), (2, 2, 1), (3, 2, 11)):
            places = oracle.all_places(TINY.sources, TINY.sinks, many, ways)
            for table in itertools.islice(itertools.product(places, repeat=many), 0, None, stride):
                if is_places(TINY, table):
                    program = Program(TINY, table)
                    for sink in ("z", "w"):
                        words = set()
                        for content in TINY.contents(4):
                            words |= set(summed(program, sink, content))
                        expected = words.pop() if len(words) == 1 else None
                        self.same(constant(program, sink), expected)
                        found.add(expected)
                        if program.is_plain() and program.is_total():
                            self.assertIs(constant(program, sink) is not None, not depends(program, sink, "x"))
        self.assertTrue({None, "", "a"} <= found)

    def test_plain_and_total(self):
        for program in (COPY, EARLY, SAME, LATE, TELL, PUTS):
            if program.is_plain() and program.is_total() and len(program.streams.sources) < 3:
                for sink, _ in program.streams.sinks:
                    told = [self.told(program, sink, source) for source, _ in program.streams.sources]
                    if None not in told:
                        self.assertIs(constant(program, sink) is None, any(told))

    def told(self, program, sink, source):
        """Whether the sink depends on the source, or None if there are too many runs."""
        try:
            return depends(program, sink, source)
        except TooMany:
            return None

    def test_told(self):
        self.same([constant(Program.nothing(LINE), "z"), constant(LOST, "z")], [None, None])
        self.same(constant(long_program(80), "z"), "ba" * 39)
        # Two ways with the same word, and a loop that puts nothing to the sink.
        streams = Streams((("x", "ab"),), (("z", "ab"), ("w", "a")))
        program = Program(
            streams,
            (
                ("either", (1, 2, 3)), ("put", "z", "a", 4), ("put", "w", "a", 1), ("put", "z", "a", 5),
                ("put", "z", "b", 6), ("put", "z", "b", 7), ("take", "x", {"a": 7, "end": 8}),
                ("take", "x", {"b": 6, "end": 8}), ("done",),
            ),
        )
        self.same([constant(program, "z"), constant(program, "w")], ["ab", None])
        # A loop of which no run comes out puts other words, which count for nothing.
        idle = Program(LINE, (("take", "x", {"a": 1, "end": 2}), ("put", "z", "a", 3), ("done",),
                              ("take", "x", {"a": 1})))
        self.same(constant(idle, "z"), "")
        # A loop that puts to the sink, of which runs come out.
        more = Program(LINE, (("take", "x", {"a": 1, "end": 2}), ("put", "z", "a", 0), ("done",)))
        self.same(constant(more, "z"), None)

    def test_no_limit(self):
        many = made_program(Streams((("x", "a"),), (("z", "a"),)), ways_program(20001).places)
        self.same(constant(many, "z"), "")

    def test_refused(self):
        for value in but():
            if not isinstance(value, Program):
                self.refused(InvalidProgram, constant, value, None)
            if value != "z":
                self.refused(UnknownName, constant, COPY, value, keeps=("wanted", value))
        self.refused(UnknownName, constant, COPY, "x", keeps=("wanted", "x"))
        self.refused(UnknownName, constant, SOUND, "x", keeps=("wanted", "x"))
        self.assertEqual([BARE.sinks, len(WIDE)], [(), 6])


if __name__ == "__main__":
    unittest.main()
