"""The module runs: numbers of runs, fillings, and the class Run."""

import itertools
import unittest

from fewersteps.base.streams import Streams
from fewersteps.books.program import Program
from fewersteps.books.runs import Run, fillings, number_of_runs
from fewersteps.errors import InvalidContent, InvalidNumber, InvalidOperation, InvalidProgram, NothingToUndo, TooMany
from tests import oracle
from tests.cases import Case, spoil
from tests.values import BARE, COPY, EARLY, EVERY, LATE, LINE, LOOSE, LOST, NEST, PAIR, PROGRAMS, SHUFFLE, SOUND
from tests.values import THREE, TOSS, anything, but, long_program

# For each sign of a source it puts one to the sink beside it, or not.
TRIO = Streams((("p", "a"), ("q", "a"), ("r", "a")), (("s", "ab"), ("t", "a"), ("u", "a")))
LENGTHS = Program(
    TRIO,
    (
        ("take", "p", {"a": 1, "end": 3}), ("either", (0, 2)), ("put", "s", "a", 0),
        ("take", "q", {"a": 4, "end": 6}), ("either", (3, 5)), ("put", "t", "a", 3),
        ("take", "r", {"a": 7, "end": 9}), ("either", (6, 8)), ("put", "u", "a", 6), ("done",),
    ),
)
# The same, with just one filling more.
MORE = Program(
    TRIO,
    (
        ("either", (10, 11)), ("either", (10, 2)), ("put", "s", "a", 10), *LENGTHS.places[3:],
        ("take", "p", {"a": 1, "end": 3}), ("put", "s", "b", 12), ("take", "p", {"a": 12, "end": 13}),
        ("take", "q", {"a": 13, "end": 14}), ("take", "r", {"a": 14, "end": 9}),
    ),
)


def some_contents(streams, many):
    """All contents with at most so many signs, but not more than sixty of them."""
    return list(itertools.islice(streams.contents(many), 60))


def some_fillings(streams, many):
    """All fillings with words of at most so many signs."""
    words = []
    for _, signs in streams.sinks:
        rows = [itertools.product(signs, repeat=length) for length in range(many + 1)]
        words.append(["".join(row) for row in itertools.chain(*rows)])
    return list(itertools.product(*words))


class TestNumbers(Case):
    def test_examples(self):
        self.same(
            [
                number_of_runs(COPY, ("ab",), ("ab",)), fillings(COPY, ("ab",)),
                number_of_runs(COPY, ("ab",), ("a",)), fillings(TOSS, ("ab",)),
            ],
            [1, {("ab",): 1}, 0, {("aa",): 4, ("ab",): 2, ("ba",): 2, ("bb",): 1}],
        )

    def test_plain_search(self):
        for program in PROGRAMS:
            for content in some_contents(program.streams, 4):
                expected = oracle.fillings(program, content)
                self.same(fillings(program, content), expected)
                for filling in some_fillings(program.streams, 2):
                    self.assertEqual(number_of_runs(program, content, filling), expected.get(filling, 0))
                for filling, many in expected.items():
                    self.assertEqual(number_of_runs(program, content, filling), many)

    def test_ordered_and_trimmed(self):
        for program in PROGRAMS:
            for other in (program.ordered(), program.trimmed()):
                for content in some_contents(program.streams, 4):
                    self.same(fillings(other, content), fillings(program, content))

    def test_lost(self):
        self.same([fillings(LOST, ("",)), fillings(LOST, ("ab",)), fillings(NEST, ("b",))], [{}, {}, {}])
        self.assertEqual(number_of_runs(LOST, ("",), ("",)), 0)

    def test_no_sinks(self):
        self.same(fillings(SOUND, ("a" * 40,)), {(): 3 ** 40})
        self.assertEqual(number_of_runs(SOUND, ("a" * 200,), ()), 3 ** 200)

    def test_equal_ways_are_different_runs(self):
        program = Program(BARE, (("either", (1, 1)), ("take", "x", {"end": 2}), ("done",)))
        self.same([fillings(program, ("",)), number_of_runs(program, ("",), ())], [{(): 2}, 2])

    def test_long_words(self):
        word = "ab" * 100
        self.assertEqual(number_of_runs(COPY, (word,), (word,)), 1)
        self.assertEqual(number_of_runs(TOSS, (word,), (word,)), 2 ** 100)
        few = number_of_runs(SHUFFLE, ("aaa", "bbb"), ("ababab",))
        self.assertEqual(few, oracle.fillings(SHUFFLE, ("aaa", "bbb"))[("ababab",)])
        self.assertEqual(number_of_runs(SHUFFLE, ("a" * 100, "b" * 100), ("ab" * 100,)), few)
        self.assertEqual(number_of_runs(SHUFFLE, ("a" * 100, "b" * 99), ("ab" * 100,)), 0)

    def test_forty_signs(self):
        self.same(fillings(COPY, ("ab" * 20,)), {("ab" * 20,): 1})
        self.refused(TooMany, fillings, COPY, ("ab" * 20 + "a",), keeps=("limit", 40))
        self.refused(TooMany, fillings, TOSS, ("a" * 41,), keeps=("limit", 40))
        self.same(fillings(Program.reading(PAIR), ("a" * 20, "b" * 20)), {("",): 1})
        self.refused(TooMany, fillings, Program.reading(PAIR), ("a" * 20, "b" * 21), keeps=("limit", 40))

    def test_two_thousand_fillings(self):
        self.refused(TooMany, fillings, TOSS, ("a" * 11,), keeps=("limit", 2000))
        self.refused(TooMany, fillings, TOSS, ("a" * 40,), keeps=("limit", 2000))
        self.assertEqual(len(fillings(TOSS, ("a" * 10,))), 1024)

    def test_just_two_thousand_fillings(self):
        for lengths in ((9, 7, 24), (24, 9, 7), (15, 4, 21), (40, 0, 0)):
            content = tuple("a" * length for length in lengths)
            many = (lengths[0] + 1) * (lengths[1] + 1) * (lengths[2] + 1)
            self.assertTrue(many <= 2000 and len(fillings(LENGTHS, content)) == many)
            if many == 2000:
                self.refused(TooMany, fillings, MORE, content, keeps=("limit", 2000))
            else:
                self.assertEqual(len(fillings(MORE, content)), many + 1)
        self.refused(TooMany, fillings, LENGTHS, ("a" * 10, "a" * 7, "a" * 23), keeps=("limit", 2000))

    def test_lost_fillings_do_not_count(self):
        # What is put ahead of the place where a run is lost is no filling.
        places = list(TOSS.places)
        places[0] = ("take", "x", {"a": 1, "b": 5, "end": 4})
        places.append(("take", "x", {"a": 5}))
        program = Program(LINE, tuple(places))
        self.same(fillings(program, ("a" * 39 + "b",)), {})
        self.refused(TooMany, fillings, program, ("a" * 40,), keeps=("limit", 2000))

    def test_eighty_places(self):
        self.same(fillings(long_program(80), ("",)), {("ba" * 39,): 1})
        self.assertEqual(number_of_runs(long_program(80), ("",), ("ba" * 39,)), 1)

    def test_nothing_shared(self):
        spoil(fillings(TOSS, ("ab",)))
        self.assertEqual(len(fillings(TOSS, ("ab",))), 4)
        for program in PROGRAMS:
            content = some_contents(program.streams, 2)[-1]
            self.unchanged(fillings, program, content)


class TestRun(Case):
    def test_examples(self):
        run = Run(COPY, ("a",))
        self.same(
            [run.go(), run.go_on(), run.place, run.steps, run.filling, run.is_done(), run.ways, str(run)],
            [("take", "x", "a"), 2, 3, 3, ("a",), True, 0, "run at 3: 3 steps, 0 moves left"],
        )

    def test_at_first(self):
        run = Run(EARLY, ("aa", "b"))
        self.same(
            [run.place, run.left, run.filling, run.steps, run.ways, run.moves, len(run), str(run)],
            [0, ("aa", "b"), ("",), 0, 1, (), 0, "run at 0: 0 steps, 1 moves left"],
        )

    def test_moves(self):
        run = Run(EARLY, ("a", "b"))
        self.assertEqual(run.go_on(), 5)
        self.same(
            run.moves, (("put", "z", "a"), ("take", "x", "a"), ("end", "x"), ("take", "y", "b"), ("end", "y")),
        )
        self.same([run.left, run.filling, run.steps, run.place], [("", ""), ("a",), 5, 3])

    def test_either(self):
        run = Run(TOSS, ("ba",))
        self.same([run.go_on(), run.ways, str(run)], [1, 3, "run at 1: 1 steps, 3 moves left"])
        self.same([run.go_on(), run.go(2), run.place, run.steps], [0, ("either", 2), 2, 1])
        self.same([run.go_on(), run.ways, run.go(), run.go(0)], [2, 3, ("either", 0), ("put", "z", "a")])
        self.same([run.steps, len(run), run.filling, run.left], [4, 6, ("aa",), ("",)])

    def test_either_with_one_place(self):
        program = Program(BARE, (("either", (1,)), ("take", "x", {"end": 2}), ("done",)))
        run = Run(program, ("",))
        self.same([run.ways, run.go_on(), run.moves, run.steps], [1, 2, (("either", 0), ("end", "x")), 1])

    def test_lost(self):
        run = Run(LOST, ("ab",))
        self.same([run.is_lost(), run.go_on(), run.is_lost(), run.is_done(), run.ways], [False, 4, True, False, 0])
        self.same([run.place, str(run), run.go_on()], [0, "run at 0: 4 steps, 0 moves left", 0])
        self.refused(InvalidOperation, run.go)
        self.assertEqual([run.place, len(run)], [0, 4])
        self.assertIs(Run(LOST, ("",)).is_lost(), True)
        self.assertIs(Run(NEST, ("",)).is_lost(), False)

    def test_all_runs(self):
        for program in PROGRAMS:
            for content in some_contents(program.streams, 2):
                found = self.search(Run(program, content), program, content)
                self.same({filling: found.count(filling) for filling in sorted(set(found))}, fillings(program, content))

    def search(self, run, program, content):
        """The fillings of all runs that go on from here."""
        if run.is_done():
            self.assertEqual(run.steps, program.streams.steps_of(content, run.filling))
            return [run.filling]
        found = []
        for way in range(run.ways):
            other = run.twin()
            self.assertEqual(other, run)
            other.go(way)
            self.assertNotEqual(other, run)
            found.extend(self.search(other, program, content))
            other.undo()
            self.assertEqual(self.state(other), self.state(run))
        self.assertEqual(not found and run.ways == 0, run.is_lost() and not found)
        return found

    def state(self, run):
        """All that a run tells."""
        return [
            run.place, run.left, run.filling, run.steps, run.ways, run.moves, run.is_done(), run.is_lost(), len(run),
            str(run),
        ]

    def test_undo(self):
        run = Run(TOSS, ("ab",))
        states = [self.state(run)]
        while run.ways:
            run.go(run.ways - 1)
            states.append(self.state(run))
        moves = run.moves
        for back in range(len(moves) + 1):
            twin = run.twin()
            self.same(twin.undo(many=back), tuple(reversed(moves))[:back])
            self.same(self.state(twin), states[len(moves) - back])
            for move in moves[len(moves) - back:]:
                self.assertEqual(twin.go(move[1] if move[0] == "either" else 0), move)
            self.assertEqual([twin == run, self.state(twin)], [True, states[-1]])
        self.same([run.undo(), len(run)], [(moves[-1],), len(moves) - 1])
        self.same([run.undo(many=0), len(run)], [(), len(moves) - 1])

    def test_equal(self):
        one = Run(TOSS, ("ab",))
        two = Run(Program(LINE, TOSS.places), ("ab",))
        self.assertTrue(one == two and not one != two)
        one.go_on()
        self.assertTrue(one != two)
        two.go_on()
        self.assertEqual(one, two)
        one.go(0)
        two.go(2)
        self.assertNotEqual(one, two)
        one.undo()
        one.go(2)
        self.assertEqual(one, two)
        self.assertNotEqual(Run(TOSS, ("ab",)), Run(TOSS, ("aa",)))
        self.assertNotEqual(Run(COPY, ("ab",)), Run(LATE, ("ab",)))
        for value in anything():
            self.assertFalse(one == value)
            self.assertTrue(one != value)

    def test_twin(self):
        run = Run(LATE, ("abab",))
        run.go()
        self.assertEqual(run.place, 1)
        twin = run.twin()
        twin.go_on()
        self.assertEqual([len(run), run.filling, run.left], [1, ("",), ("bab",)])
        run.go()
        self.assertEqual([len(twin), twin.filling], [9, ("abab",)])
        self.same([run.undo(many=2), run.place, run.moves], [(("take", "x", "b"), ("take", "x", "a")), 0, ()])
        self.same([twin.undo(many=8)[-1], twin.place, twin.left], [("take", "x", "b"), 1, ("bab",)])

    def test_long(self):
        word = "ab" * 100
        run = Run(COPY, (word,))
        self.same([run.go_on(), run.filling, run.steps], [401, (word,), 401])
        self.assertEqual(len(run.undo(many=401)), 401)
        self.assertEqual(run, Run(COPY, (word,)))

    def test_several_sources(self):
        run = Run(THREE, ("ad", "ba", "z"))
        run.go_on()
        self.assertTrue(run.is_lost() or run.is_done())
        self.assertEqual(run.steps, len(run.moves))

    def test_not_iterated(self):
        run = Run(COPY, ("a",))
        for call in (iter, list, lambda value: 1 in value, lambda value: value[0]):
            self.refused(TypeError, call, run)


class TestRefused(Case):
    def test_program(self):
        for value in anything():
            if not isinstance(value, Program):
                self.refused(InvalidProgram, number_of_runs, value, ("",), ("",))
                self.refused(InvalidProgram, number_of_runs, value, None, None)
                self.refused(InvalidProgram, fillings, value, None)
                self.refused(InvalidProgram, Run, value, None)

    def test_content(self):
        long = "a" * 201
        wrong = but(("a",), ("",)) + [("c",), ("ab", ""), ("aB",), (long,), ("a" * 9000,), ["a"], (None,), (("a",),)]
        for value in wrong:
            self.refused(InvalidContent, number_of_runs, COPY, value, ("",))
            self.refused(InvalidContent, number_of_runs, COPY, value, None)
            self.refused(InvalidContent, number_of_runs, COPY, ("",), value)
            self.refused(InvalidContent, fillings, COPY, value)
            self.refused(InvalidContent, Run, COPY, value)
        self.assertEqual(number_of_runs(COPY, ("a" * 200,), ("a" * 200,)), 1)
        self.assertEqual(len(Run(COPY, ("a" * 200,)).left[0]), 200)
        self.refused(InvalidContent, number_of_runs, SOUND, ("",), ("",))
        self.refused(InvalidContent, number_of_runs, EVERY, ("", "", "z"), ("", "", "a"))
        self.assertEqual(number_of_runs(EVERY, ("", "", "z"), ("", "", "")), 1)

    def test_go(self):
        for value in [value for value in anything() if type(value) is not int] + [-1, -2, 10 ** 60, -(10 ** 99)]:
            run = Run(TOSS, ("a",))
            run.go()
            self.refused(InvalidNumber, run.go, value, keeps=("given", value))
            self.refused(InvalidNumber, run.go, way=value, keeps=("given", value))
            self.assertEqual([len(run), run.place], [1, 1])
        for value in (3, 4, 10 ** 60 - 1):
            self.refused(InvalidOperation, run.go, value)
        done = Run(Program.reading(BARE), ("",))
        self.refused(InvalidOperation, done.go, 1)
        self.assertEqual(done.go(), ("end", "x"))
        self.refused(InvalidOperation, done.go)
        self.refused(InvalidNumber, done.go, -1, keeps=("given", -1))
        self.refused(InvalidNumber, done.go, True, keeps=("given", True))

    def test_undo(self):
        run = Run(LOOSE, ("a", "b"))
        run.go(2)
        run.go()
        for value in [value for value in anything() if type(value) is not int] + [-1, -2, 10 ** 60]:
            self.refused(InvalidNumber, run.undo, many=value, keeps=("given", value))
        for value in (3, 200, 10 ** 60 - 1):
            self.refused(NothingToUndo, run.undo, many=value, keeps=("many", value))
        self.assertEqual([len(run), run.left], [2, ("a", "")])
        self.refused(TypeError, run.undo, 1)
        run.undo(many=2)
        self.refused(NothingToUndo, run.undo, keeps=("many", 1))

    def test_properties(self):
        run = Run(COPY, ("a",))
        for name in ("place", "left", "filling", "steps", "ways", "moves"):
            with self.assertRaises(AttributeError):
                setattr(run, name, 1)


if __name__ == "__main__":
    unittest.main()
