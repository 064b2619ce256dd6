"""The class Feeder: plain programs that run on words in pieces."""

import itertools
import unittest

from fewersteps.base.streams import Streams
from fewersteps.books.program import Program
from fewersteps.books.runs import Feeder, Run
from fewersteps.errors import InvalidNumber, InvalidOperation, InvalidProgram, InvalidWord, NothingToUndo, UnknownName
from tests.cases import Case
from tests.values import BARE, COPY, EARLY, EVERY, LATE, LINE, LOST, PAIR, PROGRAMS, SOUND, THREE, TOSS, anything, but
from tests.values import long_program

PLAIN = [program for program in PROGRAMS if program.is_plain()]
# It takes one of x and then one of y, and puts both; then the other way round.
WEAVE = Program(
    Streams((("x", "ab"), ("y", "ab")), (("z", "ab"),)),
    (
        ("take", "x", {"a": 1, "b": 2, "end": 6}), ("put", "z", "a", 3), ("put", "z", "b", 3),
        ("take", "y", {"a": 4, "b": 5, "end": 9}), ("put", "z", "a", 0), ("put", "z", "b", 0),
        ("take", "y", {"a": 7, "b": 8, "end": 12}), ("put", "z", "a", 6), ("put", "z", "b", 6),
        ("take", "x", {"a": 10, "b": 11, "end": 12}), ("put", "z", "a", 9), ("put", "z", "b", 9), ("done",),
    ),
)
# It puts before anything comes, and is lost without a look at any source where its take has no moves.
LEAD = Program(LINE, (("put", "z", "b", 1), ("put", "z", "a", 2), ("take", "x", {"a": 2, "end": 3}), ("done",)))


def state(feeder):
    """All that a feeder tells."""
    return [
        feeder.came, feeder.has_ended, feeder.result, feeder.waits_for, feeder.place, feeder.is_done(),
        feeder.is_lost(), len(feeder), str(feeder),
    ]


def cuts(word):
    """Some ways to cut a word into pieces."""
    return [[word], list(word), ["", word, ""], [word[:1], word[1:]], [word[:2], "", word[2:]]]


class TestFeeder(Case):
    def test_examples(self):
        feeder = Feeder(COPY)
        self.same(
            [feeder.feed("x", "ab"), feeder.waits_for, feeder.end("x"), feeder.result, str(feeder)],
            [("ab",), "x", ("",), ("ab",), "feeder at 3: done"],
        )

    def test_at_first(self):
        self.same(
            state(Feeder(COPY)), [("",), (), ("",), "x", 0, False, False, 0, "feeder at 0: waits for x"],
        )
        self.same(state(Feeder(LEAD)), [("",), (), ("ba",), "x", 2, False, False, 0, "feeder at 2: waits for x"])
        self.same(Feeder(EARLY).result, ("a",))
        feeder = Feeder(long_program(80))
        self.same([feeder.result, feeder.place, feeder.end("x"), feeder.place], [("",), 0, ("ba" * 39,), 79])

    def test_waits_where_it_cannot_go_on(self):
        feeder = Feeder(Program.nothing(LINE))
        self.same([feeder.waits_for, feeder.is_lost()], ["x", False])
        self.same([feeder.feed("x", ""), feeder.waits_for], [("",), "x"])
        self.same([feeder.feed("x", "b"), feeder.waits_for, feeder.is_lost()], [("",), None, True])
        other = Feeder(Program.nothing(LINE))
        self.same([other.end("x"), str(other)], [("",), "feeder at 0: lost"])

    def test_lost(self):
        feeder = Feeder(LEAD)
        self.same([feeder.feed("x", "aba"), str(feeder)], [("",), "feeder at 2: lost"])
        self.same([feeder.is_lost(), feeder.is_done(), feeder.waits_for], [True, False, None])
        self.same([feeder.feed("x", "ab"), feeder.came, len(feeder)], [("",), ("abaab",), 2])
        self.same([feeder.end("x"), feeder.has_ended, len(feeder), feeder.is_lost()], [("",), ("x",), 3, True])
        self.refused(InvalidOperation, feeder.feed, "x", "")

    def test_lost_at_the_end(self):
        feeder = Feeder(LOST)
        self.same([feeder.feed("x", "ab"), feeder.end("x"), str(feeder)], [("aa",), ("",), "feeder at 0: lost"])

    def test_two_sources(self):
        feeder = Feeder(WEAVE)
        self.same([feeder.feed("y", "ba"), feeder.waits_for], [("",), "x"])
        self.same([feeder.feed("x", "a"), feeder.feed("x", ""), feeder.feed("x", "bb")], [("ab",), ("",), ("bab",)])
        self.same([feeder.waits_for, feeder.end("y"), feeder.has_ended], ["y", ("",), ("y",)])
        self.same([feeder.waits_for, feeder.feed("x", "a"), feeder.end("x")], ["x", ("a",), ("",)])
        self.same(
            state(feeder), [("abba", "ba"), ("x", "y"), ("abbaba",), None, 12, True, False, 7, "feeder at 12: done"],
        )

    def test_no_sinks(self):
        feeder = Feeder(Program.reading(BARE))
        self.same([feeder.feed("x", "a"), feeder.end("x"), feeder.result, feeder.undo(many=2)], [(), (), (), ()])

    def test_equal_to_runs(self):
        for program in (*PLAIN, WEAVE, LEAD):
            names = [name for name, _ in program.streams.sources]
            for content in itertools.islice(program.streams.contents(4), 80):
                run = Run(program, content)
                run.go_on()
                for pick in range(5):
                    feeder = Feeder(program)
                    rows = [[(name, piece) for piece in cuts(word)[pick]] for name, word in zip(names, content)]
                    rows = [row + [(name, None)] for name, row in zip(names, rows)]
                    if pick % 2:
                        rows.reverse()
                    calls = [call for turn in itertools.zip_longest(*rows) for call in turn if call]
                    put = list(feeder.result)
                    for name, piece in calls:
                        got = feeder.end(name) if piece is None else feeder.feed(name, piece)
                        put = [old + new for old, new in zip(put, got)]
                        self.assertEqual(tuple(put), feeder.result)
                    self.same([feeder.came, feeder.has_ended], [content, tuple(names)])
                    self.same(
                        [feeder.result, feeder.place, feeder.is_done(), feeder.is_lost(), len(feeder)],
                        [run.filling, run.place, run.is_done(), run.is_lost(), len(calls)],
                    )

    def test_undo(self):
        calls = [("y", "ba"), ("x", "a"), ("x", ""), ("x", "bb"), ("y", None), ("x", "a"), ("x", None)]
        feeder = Feeder(WEAVE)
        states, got = [state(feeder)], []
        for name, piece in calls:
            got.append(feeder.end(name) if piece is None else feeder.feed(name, piece))
            states.append(state(feeder))
        for back in range(len(calls) + 1):
            twin = feeder.twin()
            lost = "".join(words[0] for words in got[len(calls) - back:])
            self.same(twin.undo(many=back), (lost,))
            self.same(state(twin), states[len(calls) - back])
            for name, piece in calls[len(calls) - back:]:
                twin.end(name) if piece is None else twin.feed(name, piece)
            self.same([twin == feeder, state(twin), state(feeder)], [True, states[-1], states[-1]])
        for at in reversed(range(len(calls))):
            self.same(feeder.undo(), got[at])
            self.same(state(feeder), states[at])

    def test_undo_keeps_what_was_put_at_first(self):
        feeder = Feeder(LEAD)
        feeder.feed("x", "aab")
        self.same([feeder.undo(), feeder.result, feeder.undo(many=0)], [("",), ("ba",), ("",)])
        self.same([feeder.is_lost(), feeder.came], [False, ("",)])

    def test_twins_do_not_share(self):
        feeder = Feeder(WEAVE)
        feeder.feed("x", "ab")
        twin = feeder.twin()
        self.assertEqual([twin == feeder, len(twin)], [True, 1])
        twin.undo()
        twin.end("x")
        twin.feed("y", "b")
        self.same(state(feeder), [("ab", ""), (), ("a",), "y", 3, False, False, 1, "feeder at 3: waits for y"])
        feeder.undo()
        self.same([feeder.has_ended, feeder.came], [(), ("", "")])
        self.same([feeder.feed("x", "b"), feeder.end("x"), feeder.feed("y", "aa")], [("b",), ("",), ("aa",)])
        self.same(twin.came, ("", "b"))
        self.same(twin.undo(many=2), ("b",))
        self.same(state(twin), state(Feeder(WEAVE)))

    def test_twins_go_on_at_once(self):
        feeder = Feeder(WEAVE)
        feeder.feed("x", "ab")
        feeder.feed("y", "b")
        before = state(feeder)
        for calls in ([("y", "a"), ("x", "b"), ("x", None)], [("x", None), ("y", "bb"), ("y", None)]):
            twin, other = feeder.twin(), Feeder(WEAVE)
            other.feed("x", "ab")
            other.feed("y", "b")
            for name, piece in calls:
                got = [at.end(name) if piece is None else at.feed(name, piece) for at in (twin, other)]
                self.assertEqual(*got)
                self.same(state(twin), state(other))
            self.same(state(feeder), before)
        twin = feeder.twin()
        self.same([feeder.feed("y", "a"), feeder.end("x"), twin.came, twin.has_ended], [("a",), ("",), ("ab", "b"), ()])
        self.same([feeder.undo(many=2), state(feeder), state(twin)], [("a",), before, before])

    def test_equal(self):
        one, two = Feeder(COPY), Feeder(Program(LINE, COPY.places))
        for word in ("a", "", "ba"):
            one.feed("x", word)
        two.feed("x", "aba")
        self.assertTrue(one == two and not one != two)
        self.assertEqual([len(one), len(two)], [3, 1])
        two.end("x")
        self.assertTrue(one != two and not one == two)
        one.end("x")
        self.assertEqual(one, two)
        late = Feeder(LATE)
        late.feed("x", "aba")
        late.end("x")
        self.assertNotEqual(one, late)
        two.undo()
        self.assertNotEqual(one, two)
        lost, other = Feeder(LEAD), Feeder(LEAD)
        lost.feed("x", "ba")
        other.feed("x", "bb")
        self.assertNotEqual(lost, other)
        for value in anything():
            self.assertFalse(one == value)

    def test_pieces_do_not_matter(self):
        for program in (*PLAIN, WEAVE, LEAD):
            names = [name for name, _ in program.streams.sources]
            content = [signs[0] * 2 + signs[-1] for _, signs in program.streams.sources]
            calls = [(name, sign) for name, word in zip(names, content) for sign in word]
            found = {}
            for order in itertools.islice(itertools.permutations(calls), 0, None, 97):
                feeder = Feeder(program)
                for name, sign in order:
                    feeder.feed(name, sign)
                found.setdefault(feeder.came, []).append((feeder.result, feeder.place, feeder.waits_for))
            for states in found.values():
                self.assertEqual(len(set(states)), 1)

    def test_words_of_any_length(self):
        feeder = Feeder(COPY)
        for _ in range(60):
            feeder.feed("x", "ab" * 100)
        self.same([feeder.result, len(feeder)], [("ab" * 6000,), 60])
        self.same([len(feeder.undo(many=59)[0]), feeder.result], [11800, ("ab" * 100,)])

    def test_not_iterated(self):
        for call in (iter, list, lambda value: 1 in value, lambda value: value[0]):
            self.refused(TypeError, call, Feeder(COPY))


class TestRefused(Case):
    def test_program(self):
        for value in anything():
            if not isinstance(value, Program):
                self.refused(InvalidProgram, Feeder, value)
        for program in PROGRAMS:
            if not program.is_plain():
                self.refused(InvalidOperation, Feeder, program)
        self.assertTrue(len(PLAIN) > 5 and not TOSS.is_plain() and not SOUND.is_plain())

    def test_source(self):
        feeder = Feeder(THREE)
        before = state(feeder)
        for value in but("p", "q", "r") + ["s", "t", "u", "end", "pq"]:
            self.refused(UnknownName, feeder.feed, value, "a", keeps=("wanted", value))
            self.refused(UnknownName, feeder.feed, value, None, keeps=("wanted", value))
            self.refused(UnknownName, feeder.end, value, keeps=("wanted", value))
        self.same(state(feeder), before)

    def test_word(self):
        feeder = Feeder(WEAVE)
        feeder.end("y")
        before = state(feeder)
        for value in but("", "a", "b", "ab") + ["c", "aB", "a" * 201, "ab\n", ["a"], ("a",)]:
            self.refused(InvalidWord, feeder.feed, "x", value)
            self.refused(InvalidWord, feeder.feed, "y", value)
        for value in ("", "a", "a" * 200):
            self.refused(InvalidOperation, feeder.feed, "y", value)
        self.refused(InvalidOperation, feeder.end, "y")
        self.same(state(feeder), before)
        self.same(len(feeder.feed("x", "a" * 200)[0]), 200)

    def test_undo(self):
        feeder = Feeder(EVERY)
        feeder.feed("q", "ab")
        feeder.feed("p", "ab")
        before = state(feeder)
        for value in [value for value in anything() if type(value) is not int] + [-1, -2, 10 ** 60]:
            self.refused(InvalidNumber, feeder.undo, many=value, keeps=("given", value))
        for value in (3, 200, 10 ** 60 - 1):
            self.refused(NothingToUndo, feeder.undo, many=value, keeps=("many", value))
        self.refused(TypeError, feeder.undo, 1)
        self.same(state(feeder), before)
        self.same([feeder.undo(many=2), len(feeder)], [("", "", ""), 0])
        self.refused(NothingToUndo, feeder.undo, keeps=("many", 1))

    def test_done(self):
        feeder = Feeder(Program.copying(PAIR, "y", "z"))
        feeder.feed("y", "bb")
        self.same([feeder.end("x"), feeder.end("y"), feeder.is_done()], [("bb",), ("",), True])
        for name in ("x", "y"):
            self.refused(InvalidOperation, feeder.end, name)
            self.refused(InvalidOperation, feeder.feed, name, "")

    def test_properties(self):
        feeder = Feeder(COPY)
        for name in ("came", "has_ended", "result", "waits_for", "place"):
            with self.assertRaises(AttributeError):
                setattr(feeder, name, 1)


if __name__ == "__main__":
    unittest.main()
