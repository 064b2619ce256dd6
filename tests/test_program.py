"""The class Program: what is asked of programs, and what is made of them."""

import copy
import itertools
import unittest

from fewersteps.base.streams import Streams
from fewersteps.books.program import Program, is_places, made_program
from fewersteps.errors import InvalidNumber, InvalidOperation, InvalidProgram, InvalidStreams, InvalidWord
from fewersteps.errors import TooMany, UnknownName
from tests import oracle
from tests.values import BARE, COPY, LINE, LOOSE, LOST, PAIR, WIDE, anything, but, chain


def right_programs(streams, many, ways, stride=1):
    """All programs with so many places."""
    places = oracle.all_places(streams.sources, streams.sinks, many, ways)
    for table in itertools.islice(itertools.product(places, repeat=many), 0, None, stride):
        if is_places(streams, table):
            yield Program(streams, table)


def small_programs():
    """All programs of two, and many of three places."""
    small = Streams((("x", "a"),), (("z", "a"),))
    yield from right_programs(small, 2, 2)
    yield from right_programs(small, 3, 2)
    yield from right_programs(PAIR, 2, 2)
    yield from right_programs(PAIR, 3, 1, 7)
    yield from (LOOSE, LOST, COPY)


class TestExamples(unittest.TestCase):
    def test_examples(self):
        self.assertEqual(str(COPY), "program of 4 places, size 3")
        self.assertEqual(COPY.ended(3), ("x",))
        self.assertIs(COPY.is_total(), True)
        self.assertEqual(Program.copying(LINE, "x", "z"), COPY)
        self.assertEqual(len(Program.reading(PAIR)), 3)
        self.assertEqual(COPY.exchanged("z", "a", "b")[1], ("put", "z", "b", 0))


class TestNothing(unittest.TestCase):
    def test_places(self):
        self.assertEqual(Program.nothing(LINE).places, (("take", "x", {}),))
        self.assertEqual(Program.nothing(WIDE).places, (("take", "p", {}),))
        self.assertEqual(Program.nothing(WIDE).streams, WIDE)
        self.assertEqual(str(Program.nothing(BARE)), "program of 1 places, size 0")
        self.assertIs(Program.nothing(PAIR).is_trimmed(), True)

    def test_no_streams(self):
        for value in anything():
            if not isinstance(value, Streams):
                with self.assertRaises(InvalidStreams):
                    Program.nothing(value)


class TestReading(unittest.TestCase):
    def test_places(self):
        self.assertEqual(Program.reading(BARE).places, (("take", "x", {"a": 0, "end": 1}), ("done",)))
        self.assertEqual(
            Program.reading(PAIR).places,
            (("take", "x", {"a": 0, "end": 1}), ("take", "y", {"b": 1, "end": 2}), ("done",)),
        )
        self.assertEqual(Program.reading(WIDE)[0], ("take", "p", {"a": 0, "b": 0, "c": 0, "d": 0, "end": 1}))
        self.assertEqual([len(Program.reading(WIDE)), Program.reading(WIDE).size], [4, 3])

    def test_kind(self):
        for streams in (LINE, PAIR, BARE, WIDE):
            program = Program.reading(streams)
            self.assertTrue(program.is_trimmed() and program.is_plain() and program.is_total())

    def test_no_streams(self):
        for value in anything():
            if not isinstance(value, Streams):
                with self.assertRaises(InvalidStreams):
                    Program.reading(value)


class TestCopying(unittest.TestCase):
    def test_second_source(self):
        self.assertEqual(
            Program.copying(PAIR, "y", "z").places,
            (
                ("take", "x", {"a": 0, "end": 1}), ("take", "y", {"b": 2, "end": 3}),
                ("put", "z", "b", 1), ("done",),
            ),
        )

    def test_first_source(self):
        self.assertEqual(
            Program.copying(PAIR, "x", "z").places,
            (
                ("take", "x", {"a": 1, "end": 2}), ("put", "z", "a", 0), ("take", "y", {"b": 2, "end": 3}),
                ("done",),
            ),
        )

    def test_most_signs(self):
        program = Program.copying(WIDE, "p", "t")
        self.assertEqual([len(program), program.size], [8, 7])
        self.assertTrue(program.is_trimmed() and program.is_plain() and program.is_total())
        self.assertEqual(program[4], ("put", "t", "d", 0))
        self.assertEqual(oracle.runs(program.places, {"p": "dab", "q": "ab", "r": "z"}, "stu"), [("", "dab", "")])

    def test_no_streams(self):
        for value in anything():
            if not isinstance(value, Streams):
                with self.assertRaises(InvalidStreams):
                    Program.copying(value, "x", "z")
                with self.assertRaises(InvalidStreams):
                    Program.copying(value, None, None)

    def test_unknown_names(self):
        for value in but("x"):
            for sink in ("z", "x", None):
                with self.assertRaises(UnknownName) as caught:
                    Program.copying(LINE, value, sink)
                self.assertIs(caught.exception.wanted, value)
        for value in but("z"):
            with self.assertRaises(UnknownName) as caught:
                Program.copying(LINE, "x", value)
            self.assertIs(caught.exception.wanted, value)
        with self.assertRaises(UnknownName):
            Program.copying(BARE, "x", "x")

    def test_signs_that_lack(self):
        for source, sink in (("p", "s"), ("p", "u"), ("r", "t"), ("q", "u")):
            with self.assertRaises(InvalidOperation):
                Program.copying(WIDE, source, sink)
        with self.assertRaises(UnknownName):
            Program.copying(WIDE, "p", "q")


class TestPlaces(unittest.TestCase):
    def test_properties(self):
        self.assertEqual(COPY.streams, LINE)
        self.assertEqual(len(COPY.places), 4)
        self.assertEqual([COPY.size, LOOSE.size, LOST.size], [3, 3, 0])
        with self.assertRaises(AttributeError):
            COPY.places = ()
        with self.assertRaises(AttributeError):
            COPY.streams = PAIR
        with self.assertRaises(AttributeError):
            COPY.size = 1

    def test_moves_are_ordered(self):
        program = Program(LINE, (("take", "x", {"end": 1, "b": 0, "a": 0}), ("done",)))
        other = Program(LINE, (("take", "x", {"a": 0, "b": 0, "end": 1}), ("done",)))
        self.assertEqual(list(program[0][2]), ["a", "b", "end"])
        self.assertEqual(list(program.places[0][2]), ["a", "b", "end"])
        self.assertEqual(program, other)
        late = Streams((("x", "xyz"),), ())
        program = Program(late, (("take", "x", {"end": 1, "z": 0, "x": 0, "y": 0}), ("done",)))
        self.assertEqual(list(program[0][2].items()), [("x", 0), ("y", 0), ("z", 0), ("end", 1)])

    def test_nothing_is_shared(self):
        moves = {"a": 0, "b": 0, "end": 1}
        program = Program(LINE, (("take", "x", moves), ("done",)))
        expected = copy.deepcopy(program.places)
        moves["a"] = 7
        program.places[0][2].clear()
        program[0][2]["end"] = 0
        program.ordered().places[0][2].clear()
        self.assertEqual(program.places, expected)
        self.assertEqual(program[0], expected[0])
        self.assertEqual(program.size, 1)

    def test_arguments_stay(self):
        moves = {"end": 1, "b": 0, "a": 0}
        Program(LINE, (("take", "x", moves), ("done",)))
        is_places(LINE, (("take", "x", moves), ("done",)))
        self.assertEqual(list(moves.items()), [("end", 1), ("b", 0), ("a", 0)])

    def test_ended(self):
        self.assertEqual([LOOSE.ended(at) for at in range(7)], [(), (), ("x", "y"), (), (), (), ("y",)])
        program = Program.reading(WIDE)
        self.assertEqual([program.ended(at) for at in range(4)], [(), ("p",), ("p", "q"), ("p", "q", "r")])

    def test_of_use(self):
        self.assertEqual([LOOSE.is_of_use(at) for at in range(7)], [True] * 4 + [False, False, True])
        self.assertEqual([COPY.is_of_use(at) for at in range(4)], [True] * 4)
        self.assertEqual([LOST.is_of_use(at) for at in range(2)], [False] * 2)

    def test_all_small_ones(self):
        for program in small_programs():
            places = program.places
            useful = oracle.useful(places)
            self.assertEqual([program.is_of_use(at) for at in range(len(places))], useful)
            kinds = [place[0] for place in places]
            self.assertEqual(program.size, sum(kinds[at] in ("take", "put") and useful[at] for at in range(len(kinds))))
            self.assertEqual({(at, frozenset(program.ended(at))) for at in range(len(places))}, oracle.states(places))

    def test_wrong_numbers(self):
        right = range(4)
        for value in anything() + [4, 5, -4]:
            if type(value) is int and value in right:
                continue
            for ask in (COPY.ended, COPY.is_of_use, lambda at: COPY[at], lambda at: COPY.with_place(at, None)):
                with self.assertRaises(InvalidNumber) as caught:
                    ask(value)
                self.assertIs(caught.exception.given, value)

    def test_last_number(self):
        self.assertEqual([COPY[3], COPY.ended(3), COPY.is_of_use(3)], [("done",), ("x",), True])


class TestKinds(unittest.TestCase):
    def test_plain(self):
        self.assertEqual([COPY.is_plain(), LOST.is_plain(), LOOSE.is_plain()], [True, True, False])
        useless = Program(LINE, (("take", "x", {"a": 1, "end": 2}), ("either", (3,)), ("done",), ("take", "x", {})))
        self.assertIs(useless.is_plain(), False)

    def test_total(self):
        self.assertEqual([COPY.is_total(), LOST.is_total(), LOOSE.is_total()], [True, False, False])
        without_end = Program(LINE, (("take", "x", {"a": 0, "b": 0}),))
        without_sign = Program(LINE, (("take", "x", {"a": 0, "end": 1}), ("done",)))
        either = Program(LINE, (("either", (1, 1)), ("take", "x", {"a": 1, "b": 1, "end": 2}), ("done",)))
        self.assertEqual([without_end.is_total(), without_sign.is_total(), either.is_total()], [False, False, True])


class TestWithPlace(unittest.TestCase):
    def test_result(self):
        place = ("put", "z", "b", 0)
        result = COPY.with_place(1, place)
        self.assertEqual(result.places, COPY.places[:1] + (place,) + COPY.places[2:])
        self.assertEqual(COPY[1], ("put", "z", "a", 0))
        for at in range(4):
            self.assertEqual(COPY.with_place(at, COPY[at]), COPY)

    def test_of_use_changes(self):
        result = LOST.with_place(0, ("take", "x", {"a": 1}))
        self.assertEqual(result.size, 0)
        result = COPY.with_place(2, ("take", "x", {"b": 2}))
        self.assertEqual([result.is_of_use(at) for at in range(4)], [True, True, False, True])

    def test_nothing_is_shared(self):
        moves = {"end": 3, "b": 2, "a": 1}
        result = COPY.with_place(0, ("take", "x", moves))
        self.assertEqual(list(moves), ["end", "b", "a"])
        moves.clear()
        self.assertEqual(result, COPY)

    def test_no_right_program(self):
        for value in anything():
            if value == ("done",):
                continue
            with self.assertRaises(InvalidProgram):
                COPY.with_place(3, value)
        for at, value in (
            (0, ("take", "x", {"a": 1, "end": 3})),
            (0, ("take", "x", {"a": 1, "b": 2})),
            (1, ("put", "z", "a", 4)),
            (1, ("put", "z", "a", 1)),
            (1, ("put", "x", "a", 0)),
            (1, ("put", "z", "a", 3)),
            (1, ("done",)),
            (3, ("take", "x", {})),
            (3, ("either", (0,))),
            (0, ("either", (1, 2, 3))),
        ):
            with self.assertRaises(InvalidProgram):
                COPY.with_place(at, value)

    def test_number_is_first(self):
        with self.assertRaises(InvalidNumber) as caught:
            COPY.with_place(-1, ("done",))
        self.assertEqual(caught.exception.given, -1)


class TestOrder(unittest.TestCase):
    def test_ordered(self):
        self.assertEqual(
            LOOSE.ordered().places,
            (
                ("either", (1, 2, 3)),
                ("put", "z", "a", 4),
                ("put", "z", "b", 3),
                ("take", "y", {"b": 3, "end": 5}),
                ("take", "y", {"b": 1}),
                ("take", "x", {"a": 5, "end": 6}),
                ("done",),
            ),
        )
        self.assertEqual(COPY.ordered(), COPY)

    def test_signs_go_ahead_of_the_end(self):
        program = Program(LINE, (("take", "x", {"end": 1, "b": 2, "a": 3}), ("done",), ("put", "z", "b", 0),
                                 ("put", "z", "a", 0)))
        self.assertEqual(program.ordered(), COPY)
        self.assertEqual(program.trimmed(), COPY)
        self.assertIs(program.is_trimmed(), False)

    def test_repeated_ways(self):
        program = Program(LINE, (("either", (2, 1, 2)), ("put", "z", "a", 3), ("put", "z", "b", 3),
                                 ("take", "x", {"end": 4}), ("done",)))
        expected = (("either", (1, 2, 1)), ("put", "z", "b", 3), ("put", "z", "a", 3), ("take", "x", {"end": 4}))
        self.assertEqual(program.ordered().places[:4], expected)

    def test_all_small_ones(self):
        for program in small_programs():
            result = program.ordered()
            self.assertTrue(oracle.in_plain_order(result.places))
            self.assertEqual(result.ordered(), result)
            self.assertEqual(len(result), len(program))
            self.assertEqual(sorted(place[0] for place in result.places), sorted(place[0] for place in program.places))
            self.assertTrue(is_places(result.streams, result.places))
            self.assertEqual(result == program, oracle.in_plain_order(program.places))


class TestTrimming(unittest.TestCase):
    def test_trimmed(self):
        self.assertEqual(
            LOOSE.trimmed().places,
            (
                ("either", (1, 2)),
                ("put", "z", "b", 2),
                ("take", "y", {"b": 2, "end": 3}),
                ("take", "x", {"a": 3, "end": 4}),
                ("done",),
            ),
        )
        self.assertEqual(COPY.trimmed(), COPY)

    def test_without_places_of_use(self):
        self.assertEqual(LOST.trimmed(), Program.nothing(LINE))
        far = Program(PAIR, (("put", "z", "a", 1), ("take", "y", {"b": 1, "end": 2}), ("take", "x", {})))
        self.assertEqual(far.trimmed().places, (("take", "x", {}),))
        second = Program(PAIR, (("take", "y", {}),))
        self.assertEqual([second.trimmed() == second, second.is_trimmed()], [False, False])
        self.assertEqual([far.size, LOST.is_trimmed()], [0, False])

    def test_moves_are_left_out(self):
        program = Program(LINE, (("take", "x", {"a": 1, "b": 0, "end": 2}), ("take", "x", {}), ("done",)))
        self.assertEqual(program.trimmed().places, (("take", "x", {"b": 0, "end": 1}), ("done",)))

    def test_all_small_ones(self):
        for program in small_programs():
            result = program.trimmed()
            self.assertIs(result.is_trimmed(), True)
            self.assertEqual(program.is_trimmed(), program == result)
            self.assertTrue(is_places(result.streams, result.places))
            useful = oracle.useful(program.places)
            if not useful[0]:
                self.assertEqual(result, Program.nothing(program.streams))
                continue
            self.assertEqual(len(result), sum(useful))
            self.assertTrue(all(oracle.useful(result.places)))
            self.assertTrue(oracle.in_plain_order(result.places))
            self.same_runs(program, result)

    def same_runs(self, program, result):
        names = [name for name, _ in program.streams.sources]
        sinks = [name for name, _ in program.streams.sinks]
        for content in program.streams.contents(2):
            words = dict(zip(names, content))
            self.assertEqual(oracle.runs(program.places, words, sinks), oracle.runs(result.places, words, sinks))


class TestOtherNames(unittest.TestCase):
    def test_renamed(self):
        names = {"z": "x", "y": "w", "x": "z"}
        result = LOOSE.renamed(names)
        self.assertEqual(result.streams, PAIR.renamed(names))
        self.assertEqual(result[1], ("take", "w", {"b": 1, "end": 6}))
        self.assertEqual(result[3], ("put", "x", "b", 1))
        self.assertEqual(result[6], ("take", "z", {"a": 6, "end": 2}))
        self.assertEqual([result[0], result[2]], [LOOSE[0], LOOSE[2]])
        self.assertEqual([result.ended(2), result.size], [("z", "w"), LOOSE.size])
        self.assertEqual(result.renamed({"x": "z", "w": "y", "z": "x"}), LOOSE)
        self.assertEqual(names, {"z": "x", "y": "w", "x": "z"})
        names.clear()
        self.assertEqual(result.streams.names, ("z", "w", "x"))

    def test_wrong_names(self):
        wrong = [{"x": "a"}, {"x": "a", "z": "a"}, {"x": "a", "z": "b", "y": "c"}, {"x": "a", "z": "end"}, {}]
        for value in wrong + anything():
            with self.assertRaises(InvalidOperation):
                COPY.renamed(value)


class TestOtherSigns(unittest.TestCase):
    def test_of_a_source(self):
        program = Program(LINE, (("take", "x", {"a": 1, "end": 2}), ("put", "z", "a", 0), ("done",)))
        result = program.exchanged("x", "b", "a")
        self.assertEqual(result.places, (("take", "x", {"b": 1, "end": 2}), ("put", "z", "a", 0), ("done",)))
        result = COPY.exchanged("x", "a", "b")
        self.assertEqual(list(result[0][2].items()), [("a", 2), ("b", 1), ("end", 3)])
        self.assertEqual(result[1], ("put", "z", "a", 0))
        self.assertEqual(result.exchanged("x", "a", "b"), COPY)

    def test_of_a_sink(self):
        result = COPY.exchanged("z", "a", "b")
        self.assertEqual(result.places[1:3], (("put", "z", "b", 0), ("put", "z", "a", 0)))
        self.assertEqual(result[0], COPY[0])
        self.assertEqual(COPY[1], ("put", "z", "a", 0))

    def test_one_stream_alone(self):
        streams = Streams((("x", "ab"), ("y", "ab")), (("v", "ab"), ("w", "abc")))
        program = Program.copying(streams, "y", "w")
        result = program.exchanged("y", "a", "b")
        self.assertEqual(result[0], program[0])
        self.assertEqual(result[1], ("take", "y", {"a": 3, "b": 2, "end": 4}))
        self.assertEqual(program.exchanged("v", "a", "b"), program)
        self.assertEqual(program.exchanged("w", "a", "c")[2], ("put", "w", "c", 1))

    def test_equal_signs(self):
        for name, sign in (("x", "a"), ("x", "b"), ("z", "a"), ("z", "b")):
            self.assertEqual(COPY.exchanged(name, sign, sign), COPY)

    def test_with_either_and_done(self):
        self.assertEqual(LOOSE.exchanged("z", "a", "b")[3], ("put", "z", "a", 1))
        self.assertEqual(LOOSE.exchanged("z", "a", "b").exchanged("z", "b", "a"), LOOSE)

    def test_unknown_names(self):
        for value in but("x", "z"):
            with self.assertRaises(UnknownName) as caught:
                COPY.exchanged(value, "a", "q")
            self.assertIs(caught.exception.wanted, value)

    def test_wrong_signs(self):
        for value in but("a", "b"):
            for name in ("x", "z"):
                with self.assertRaises(InvalidWord):
                    COPY.exchanged(name, value, "a")
                with self.assertRaises(InvalidWord):
                    COPY.exchanged(name, "a", value)
                with self.assertRaises(InvalidWord):
                    COPY.exchanged(name, value, value)
        with self.assertRaises(InvalidWord):
            Program.reading(PAIR).exchanged("x", "a", "b")


class TestOperators(unittest.TestCase):
    def test_length_and_text(self):
        self.assertEqual([len(COPY), len(LOOSE), len(LOST)], [4, 7, 2])
        self.assertEqual(str(LOOSE), "program of 7 places, size 3")
        self.assertEqual(str(LOST), "program of 2 places, size 0")

    def test_items(self):
        self.assertEqual([COPY[at] for at in range(4)], list(COPY.places))

    def test_equal(self):
        twin = Program(Streams(LINE.sources, LINE.sinks), COPY.places)
        self.assertIs(COPY == twin, True)
        self.assertIs(COPY != twin, False)
        for value in anything():
            same = isinstance(value, Program) and len(value) == 4
            self.assertIs(COPY == value, same)
            self.assertIs(COPY != value, not same)
            self.assertIs(value == COPY, same)

    def test_unequal(self):
        other = Streams((("x", "ab"),), (("z", "abc"),))
        self.assertNotEqual(Program(other, COPY.places), COPY)
        self.assertNotEqual(COPY.with_place(1, ("put", "z", "b", 0)), COPY)
        turned = Program(LINE, (("take", "x", {"a": 2, "b": 1, "end": 3}), COPY[2], COPY[1], COPY[3]))
        self.assertNotEqual(turned, COPY)
        self.assertEqual(turned.ordered(), COPY)

    def test_not_iterable(self):
        for ask in (iter, list, tuple, sorted, lambda value: [*value], lambda value: ("done",) in value):
            with self.assertRaises(TypeError):
                ask(COPY)

    def test_equal_calls(self):
        for program in (COPY, LOOSE, LOST):
            self.assertEqual(program.trimmed(), program.trimmed())
            self.assertEqual(program.ordered(), program.ordered())
            self.assertEqual(program.places, program.places)


class TestMadePrograms(unittest.TestCase):
    """Programs with more places than written ones have."""

    def test_all_methods(self):
        for many in (25, 80):
            program = made_program(LINE, chain(many))
            self.assertEqual([len(program), program.size], [many, many - 1])
            self.assertEqual(program.places, chain(many))
            self.assertEqual([program.ended(many - 1), program.is_of_use(many - 1)], [("x",), True])
            self.assertTrue(program.is_trimmed() and program.is_plain())
            self.assertEqual([program.ordered(), program.trimmed()], [program, program])
            self.assertEqual(program.exchanged("z", "a", "b")[1], ("put", "z", "a", 2))
            self.assertEqual(program.renamed({"x": "z", "z": "x"})[1], ("put", "x", "b", 2))
            self.assertEqual(str(program), f"program of {many} places, size {many - 1}")

    def test_with_place(self):
        program = made_program(LINE, chain(80))
        result = program.with_place(7, ("put", "z", "a", 8))
        self.assertEqual([len(result), result[7]], [80, ("put", "z", "a", 8)])
        with self.assertRaises(InvalidProgram):
            program.with_place(7, ("put", "z", "a", 9))
        with self.assertRaises(InvalidNumber):
            program.with_place(80, ("done",))

    def test_too_many(self):
        with self.assertRaises(TooMany) as caught:
            made_program(LINE, chain(81))
        self.assertEqual(caught.exception.limit, 80)

    def test_they_cannot_be_written(self):
        program = made_program(LINE, chain(25))
        self.assertIs(is_places(LINE, program.places), False)
        with self.assertRaises(InvalidProgram):
            Program(LINE, program.places)

    def test_nothing_is_shared(self):
        moves = {"end": 1}
        program = made_program(LINE, [("take", "x", moves), ("done",)])
        moves.clear()
        self.assertEqual(program.places, chain(2))


if __name__ == "__main__":
    unittest.main()
