"""Which places are those of a right program."""

import itertools
import unittest

from fewersteps.base.streams import Streams
from fewersteps.books.program import MAX_PLACES, MAX_WRITTEN, Program, is_places
from fewersteps.errors import InvalidProgram, InvalidStreams
from tests import oracle
from tests.values import BARE, COPY, LINE, PAIR, anything, but, chain, deep

READ = (("take", "x", {"a": 0, "b": 0, "end": 1}), ("done",))


class Judged(unittest.TestCase):
    def right(self, streams, places):
        self.assertIs(is_places(streams, places), True, places)
        self.assertEqual(Program(streams, places).places, places)

    def wrong(self, streams, places):
        self.assertIs(is_places(streams, places), False, places)
        with self.assertRaises(InvalidProgram):
            Program(streams, places)


class TestExamples(Judged):
    def test_examples(self):
        self.right(LINE, (("take", "x", {}),))
        self.wrong(LINE, (("done",),))
        self.wrong(LINE, (("put", "z", "a", 0),))
        self.right(LINE, COPY.places)

    def test_constants(self):
        self.assertEqual([MAX_WRITTEN, MAX_PLACES], [24, 80])


class TestNumbersOfPlaces(Judged):
    def test_numbers(self):
        self.right(LINE, (("take", "x", {"a": 0}),))
        self.right(LINE, chain(2))
        self.right(LINE, chain(24))
        self.wrong(LINE, chain(25))
        self.wrong(LINE, chain(80))
        self.wrong(LINE, ())


class TestForms(Judged):
    """Places that differ from right ones in their form."""

    def test_tables(self):
        for value in anything():
            self.wrong(LINE, value)
        self.wrong(LINE, list(READ))
        self.wrong(LINE, {0: READ[0], 1: READ[1]})
        self.wrong(LINE, (READ,))

    def test_no_places(self):
        for value in but(("done",)):
            self.wrong(LINE, (READ[0], value))
            self.wrong(LINE, (value, READ[1]))

    def test_done(self):
        for value in (("done", 0), ("done", None), ["done"], "done", ("do",), (), ("Done",), ("done", ())):
            self.wrong(LINE, (READ[0], value))

    def test_first_words(self):
        for value in but("take"):
            self.wrong(LINE, ((value, "x", {"a": 0, "b": 0, "end": 1}), READ[1]))
        for value in but("put"):
            self.wrong(LINE, ((value, "z", "a", 1), ("take", "x", {})))
        for value in but("done"):
            self.wrong(LINE, (READ[0], (value,)))

    def test_takes(self):
        for value in but("x"):
            self.wrong(LINE, (("take", value, {"end": 1}), ("done",)))
        for value in but({}, {"a": 0}):
            self.wrong(LINE, (("take", "x", value),))
        for value in but(0, 1):
            self.wrong(LINE, (("take", "x", {"a": value, "end": 1}), ("done",)))
        for value in but(1):
            self.wrong(LINE, (("take", "x", {"a": 0, "end": value}), ("done",)))
        for key in ("c", "ab", "", "A", "ends", "En", None, 0, True, ("a",), ("end",)):
            self.wrong(LINE, (("take", "x", {key: 0, "end": 1}), ("done",)))
        for value in (("take", "x"), ("take", "x", {"end": 1}, 0), ("take",), ["take", "x", {"end": 1}]):
            self.wrong(LINE, (value, ("done",)))
        self.wrong(LINE, (("take", "x", [("end", 1)]), ("done",)))
        self.wrong(LINE, (("take", "x", (("end", 1),)), ("done",)))
        self.wrong(LINE, (("take", "x", {"end": 2}), ("done",)))
        self.wrong(LINE, (("take", "x", {"end": -1}), ("done",)))
        self.wrong(LINE, (("take", "z", {"end": 1}), ("done",)))
        self.wrong(LINE, (("take", "z", {}),))
        self.wrong(LINE, (("take", "x", {"a": 1}), ("take", "z", {"a": 0})))

    def test_puts(self):
        self.right(LINE, (("put", "z", "a", 1), ("take", "x", {"end": 2}), ("done",)))
        tail = (("take", "x", {"end": 2}), ("done",))
        for value in but("z"):
            self.wrong(LINE, (("put", value, "a", 1),) + tail)
        for value in but("a", "b"):
            self.wrong(LINE, (("put", "z", value, 1),) + tail)
        for value in but(1):
            self.wrong(LINE, (("put", "z", "a", value),) + tail)
        for value in (("put", "z", "a"), ("put", "z", "a", 1, 1), ("put",), ["put", "z", "a", 1]):
            self.wrong(LINE, (value,) + tail)
        self.wrong(LINE, (("put", "x", "a", 1),) + tail)
        self.wrong(BARE, (("put", "x", "a", 1),) + tail)
        self.wrong(PAIR, (("put", "z", "", 1),) + tail)

    def test_eithers(self):
        tail = (("take", "x", {"end": 2}), ("done",))
        for ways in ((1,), (1, 1), (1, 1, 1, 1)):
            self.right(LINE, (("either", ways),) + tail)
        for value in but((1,)):
            self.wrong(LINE, (("either", value),) + tail)
        for value in but(1):
            self.wrong(LINE, (("either", (1, value)),) + tail)
        for ways in ((), (1, 1, 1, 1, 1), (3,), (-1,), (1, True), (1, 10 ** 61), [1], {1: 1}, 1):
            self.wrong(LINE, (("either", ways),) + tail)
        for value in (("either", 1), ("either", (1,), 1), ("either",), ["either", (1,)]):
            self.wrong(LINE, (value,) + tail)

    def test_four_ways(self):
        self.right(
            LINE,
            (
                ("either", (1, 2, 3, 4)), ("put", "z", "a", 5), ("put", "z", "b", 5), ("either", (2, 5, 2)),
                ("take", "x", {"end": 6}), ("take", "x", {"a": 5, "end": 6}), ("done",),
            ),
        )

    def test_deep_values(self):
        for value in (deep(1), deep(("done",)), deep(COPY)):
            self.wrong(LINE, (("take", "x", {"end": value}), ("done",)))
            self.wrong(LINE, (("take", "x", {"end": 1}), value))


class TestOneThing(Judged):
    """Programs that are right but for one thing."""

    def test_existing_places(self):
        self.right(LINE, (("take", "x", {"a": 0, "end": 1}), ("done",)))
        self.wrong(LINE, (("take", "x", {"a": 2, "end": 1}), ("done",)))

    def test_places_are_reached(self):
        self.right(LINE, (("take", "x", {"a": 1, "end": 2}), ("put", "z", "a", 0), ("done",)))
        self.wrong(LINE, (("take", "x", {"end": 2}), ("put", "z", "a", 0), ("done",)))
        self.wrong(LINE, (("take", "x", {"end": 1}), ("done",), ("done",)))

    def test_same_ends_on_each_way(self):
        joined = (
            ("take", "x", {"a": 1, "end": 2}), ("take", "y", {"end": 3}), ("take", "y", {"end": 4}),
            ("take", "x", {"a": 3, "end": 4}), ("done",),
        )
        self.right(PAIR, joined)
        self.wrong(PAIR, (("take", "x", {"a": 1, "end": 1}), ("take", "y", {"end": 2}), ("done",)))
        self.wrong(PAIR, joined[:1] + (("take", "y", {"b": 2, "end": 3}),) + joined[2:])
        self.wrong(PAIR, (("either", (1, 2)), ("take", "x", {"end": 3}), ("take", "y", {"end": 3}), ("take", "x", {})))

    def test_no_take_behind_the_end(self):
        self.right(PAIR, (("take", "x", {"end": 1}), ("take", "y", {})))
        self.wrong(PAIR, (("take", "x", {"end": 1}), ("take", "x", {})))
        self.wrong(PAIR, (("take", "x", {"end": 1}), ("take", "x", {"a": 1})))
        self.wrong(PAIR, (("take", "x", {"end": 1}), ("take", "y", {"end": 2}), ("take", "y", {})))

    def test_done_behind_all_ends(self):
        self.wrong(PAIR, (("take", "x", {"end": 1}), ("done",)))
        self.wrong(PAIR, (("take", "y", {"end": 1}), ("done",)))
        self.wrong(LINE, (("take", "x", {"a": 1}), ("done",)))
        self.wrong(LINE, (("done",),))

    def test_no_way_back_without_a_sign(self):
        self.right(LINE, (("put", "z", "a", 1), ("take", "x", {"a": 0, "b": 1, "end": 2}), ("done",)))
        self.wrong(LINE, (("put", "z", "a", 1), ("put", "z", "a", 0)))
        self.wrong(LINE, (("either", (0, 1)), ("take", "x", {"end": 2}), ("done",)))
        self.wrong(LINE, (("either", (1, 2)), ("put", "z", "b", 0), ("take", "x", {"end": 3}), ("done",)))
        self.wrong(LINE, (("take", "x", {"end": 1}), ("either", (2, 3)), ("put", "z", "a", 1), ("done",)))
        self.wrong(LINE, (("take", "x", {"end": 0}),))

    def test_places_without_use_are_right(self):
        self.right(LINE, (("take", "x", {"a": 1, "b": 0}), ("either", (2, 2)), ("put", "z", "b", 0)))


class TestAllSmallTables(Judged):
    """All tables of a few places, judged by an oracle that follows the words of the document."""

    def compare(self, streams, many, ways, stride):
        places = oracle.all_places(streams.sources, streams.sinks, many, ways)
        sources = [name for name, _ in streams.sources]
        found = 0
        for table in itertools.islice(itertools.product(places, repeat=many), 0, None, stride):
            expected = oracle.is_right(sources, table)
            self.assertIs(is_places(streams, table), expected, table)
            found += expected
        return found

    def test_two_places(self):
        self.assertGreater(self.compare(LINE, 2, 2, 1), 20)
        self.assertGreater(self.compare(PAIR, 2, 2, 1), 20)

    def test_three_places(self):
        small = Streams((("x", "a"),), (("z", "a"),))
        self.assertGreater(self.compare(small, 3, 2, 1), 300)
        self.assertGreater(self.compare(PAIR, 3, 1, 1), 100)

    def test_four_places(self):
        self.assertGreater(self.compare(Streams((("x", "a"), ("y", "a")), ()), 4, 1, 97), 20)


class TestStreams(Judged):
    def test_is_places_refuses_other_streams(self):
        for value in anything():
            if not isinstance(value, Streams):
                for places in (READ, None, 10 ** 99):
                    with self.assertRaises(InvalidStreams):
                        is_places(value, places)

    def test_program_refuses_other_streams(self):
        for value in anything():
            if not isinstance(value, Streams):
                for places in (READ, None, 10 ** 99):
                    with self.assertRaises(InvalidProgram):
                        Program(value, places)


if __name__ == "__main__":
    unittest.main()
