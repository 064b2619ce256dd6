"""Names, signs, and the class Streams, but for the lists of contents."""

import copy
import unittest

from fewersteps.base import streams as module
from fewersteps.base.streams import MAX_WORD, Streams, is_name, is_signs
from fewersteps.errors import InvalidContent, InvalidOperation, InvalidStreams, UnknownName
from tests.values import BARE, COPY, LINE, PAIR, WIDE, anything, but, objects


class TestNamesAndSigns(unittest.TestCase):
    def test_names(self):
        for value in ("a", "z", "x", "abcdefgh", "zzzzzzzz", "en", "ends", "take", "done", "aa"):
            self.assertIs(is_name(value), True, value)

    def test_no_names(self):
        wrong = ["", "end", "abcdefghi", "A", "aB", "a1", "a b", "a\n", "\n", "-", "_", "`", "{", "a" * 9000]
        for value in wrong + [("a",), ["a"], {"a": "a"}, 1, True, None, LINE]:
            self.assertIs(is_name(value), False, value)

    def test_signs(self):
        for value in ("a", "z", "ab", "az", "abcd", "wxyz", "end"[0:1]):
            self.assertIs(is_signs(value), True, value)

    def test_no_signs(self):
        wrong = ["", "ba", "aa", "abb", "abcde", "A", "aB", "a1", "a ", "\n", "end", "abdc", "b" * 9000]
        for value in wrong + [("a",), ["a", "b"], {"a": 1}, 1, False, None, LINE]:
            self.assertIs(is_signs(value), False, value)

    def test_every_value_is_judged(self):
        names = {"a", "b", "ab", "x", "z", "take", "done"}
        signs = {"a", "b", "ab", "x", "z"}
        for value in anything():
            self.assertIs(is_name(value), isinstance(value, str) and value in names)
            self.assertIs(is_signs(value), isinstance(value, str) and value in signs)

    def test_constant(self):
        self.assertEqual(MAX_WORD, 200)


class TestMaking(unittest.TestCase):
    def test_properties(self):
        self.assertEqual(PAIR.sources, (("x", "a"), ("y", "b")))
        self.assertEqual(PAIR.sinks, (("z", "ab"),))
        self.assertEqual(PAIR.names, ("x", "y", "z"))
        self.assertEqual(BARE.sinks, ())
        self.assertEqual(WIDE.names, ("p", "q", "r", "s", "t", "u"))

    def test_edges(self):
        self.assertEqual(len(Streams((("abcdefgh", "abcd"),), ())), 1)
        self.assertEqual(len(WIDE), 6)
        self.assertEqual(Streams((("b", "b"), ("a", "a")), ()).names, ("b", "a"))

    def test_wrong_numbers_of_streams(self):
        four = (("a", "a"), ("b", "a"), ("c", "a"), ("d", "a"))
        for sources, sinks in (((), ()), ((), four[:1]), (four, ()), (four[:1], tuple((n * 2, s) for n, s in four))):
            with self.assertRaises(InvalidStreams):
                Streams(sources, sinks)

    def test_equal_names(self):
        for sources, sinks in (
            ((("x", "a"), ("x", "b")), ()),
            ((("x", "a"),), (("x", "a"),)),
            ((("x", "a"),), (("y", "a"), ("y", "a"))),
        ):
            with self.assertRaises(InvalidStreams):
                Streams(sources, sinks)

    def test_wrong_pairs(self):
        pairs = [("end", "ab"), ("", "ab"), ("abcdefghi", "ab"), ("X", "ab"), ("x", ""), ("x", "ba"), ("x", "abcde")]
        pairs += [("x",), ("x", "ab", "c"), (), ["x", "ab"], {"x": "ab"}, "xa", None, True, 1, LINE]
        pairs += [(value, "ab") for value in but("a", "b", "ab", "x", "z", "take", "done")]
        pairs += [("x", value) for value in but("a", "b", "ab", "x", "z")]
        for pair in pairs:
            with self.assertRaises(InvalidStreams):
                Streams((pair,), ())
            with self.assertRaises(InvalidStreams):
                Streams((("y", "a"),), (pair,))
            with self.assertRaises(InvalidStreams):
                Streams((("y", "a"), pair), ())

    def test_wrong_kinds(self):
        for value in but((("x", "ab"),)):
            with self.assertRaises(InvalidStreams):
                Streams(value, ())
        for value in but((), (("x", "ab"),)):
            with self.assertRaises(InvalidStreams):
                Streams((("y", "a"),), value)
            with self.assertRaises(InvalidStreams):
                Streams(None, value)

    def test_never_changes(self):
        for name in ("sources", "sinks", "names"):
            with self.assertRaises(AttributeError):
                setattr(PAIR, name, ())
        self.assertEqual(str(PAIR), "x:a y:b > z:ab")


class TestNames(unittest.TestCase):
    def test_signs_of(self):
        self.assertEqual([WIDE.signs_of(name) for name in WIDE.names], ["abcd", "ab", "z", "a", "abcd", "bcd"])

    def test_is_source(self):
        self.assertEqual([WIDE.is_source(name) for name in WIDE.names], [True] * 3 + [False] * 3)

    def test_index_of(self):
        self.assertEqual([WIDE.index_of(name) for name in WIDE.names], [0, 1, 2, 0, 1, 2])
        self.assertEqual([PAIR.index_of("y"), PAIR.index_of("z")], [1, 0])

    def test_unknown_names(self):
        for value in but("x", "z"):
            for method in (LINE.signs_of, LINE.is_source, LINE.index_of, LINE.without):
                with self.assertRaises(UnknownName) as caught:
                    method(value)
                self.assertIs(caught.exception.wanted, value)

    def test_contained(self):
        for value in anything():
            self.assertIs(value in LINE, isinstance(value, str) and value in ("x", "z"))
        self.assertIs("y" in PAIR, True)
        self.assertIs("xy" in PAIR, False)

    def test_length_and_text(self):
        self.assertEqual([len(LINE), len(PAIR), len(BARE)], [2, 3, 1])
        self.assertEqual(str(LINE), "x:ab > z:ab")
        self.assertEqual(str(Streams((("x", "ab"),), ())), "x:ab >")
        self.assertEqual(str(WIDE), "p:abcd q:ab r:z > s:a t:abcd u:bcd")


class TestEquality(unittest.TestCase):
    def test_equal(self):
        twin = Streams((("x", "a"), ("y", "b")), (("z", "ab"),))
        self.assertIs(PAIR == twin, True)
        self.assertIs(PAIR != twin, False)

    def test_unequal(self):
        others = [
            Streams((("y", "b"), ("x", "a")), (("z", "ab"),)),
            Streams((("x", "a"), ("y", "a")), (("z", "ab"),)),
            Streams((("x", "a"), ("w", "b")), (("z", "ab"),)),
            Streams((("x", "a"), ("y", "b")), (("z", "a"),)),
            Streams((("x", "a"), ("y", "b")), ()),
            Streams((("x", "a"), ("y", "b"), ("z", "ab")), ()),
            Streams((("x", "a"),), (("y", "b"), ("z", "ab"))),
        ]
        for other in others:
            self.assertIs(PAIR == other, False)
            self.assertIs(PAIR != other, True)

    def test_any_value(self):
        for value in anything():
            same = isinstance(value, Streams) and str(value) == "x:ab > z:ab"
            self.assertIs(LINE == value, same)
            self.assertIs(LINE != value, not same)
            self.assertIs(value == LINE, same)

    def test_not_iterable(self):
        for ask in (iter, list, tuple, sorted, lambda value: [*value], lambda value: [x for x in value]):
            with self.assertRaises(TypeError):
                ask(PAIR)


class TestContents(unittest.TestCase):
    def test_contents(self):
        for value in (("",), ("a",), ("abba",), ("a" * 200,), ("b" * 201,), ("ab" * 4500,)):
            self.assertIs(LINE.is_content(value), True)
            self.assertIs(LINE.is_filling(value), True)
        self.assertIs(PAIR.is_content(("aa", "b")), True)
        self.assertIs(PAIR.is_content(("", "")), True)
        self.assertIs(BARE.is_filling(()), True)

    def test_no_contents(self):
        for value in (("b", "a"), ("a",), ("a", "b", ""), ["a", "b"], ("a", "a"), "ab", ("a", "c"), ("a", None), ()):
            self.assertIs(PAIR.is_content(value), False, value)
        for value in (("",), ("", ""), None, [], {}, "", 0, False):
            self.assertIs(BARE.is_filling(value), False, value)
        self.assertIs(LINE.is_content(("A",)), False)
        self.assertIs(LINE.is_content(("a\n",)), False)
        self.assertIs(LINE.is_content(("a" * 8999 + "c",)), False)
        self.assertIs(LINE.is_content((("a",),)), False)
        self.assertIs(LINE.is_content((["a"],)), False)

    def test_every_value_is_judged(self):
        for value in anything():
            self.assertIs(LINE.is_content(value), value == ("a",))
            self.assertIs(LINE.is_filling((value,)), isinstance(value, str) and value in ("", "a", "b", "ab"))

    def test_steps(self):
        self.assertEqual(LINE.steps_of(("ab",), ("b",)), 4)
        self.assertEqual(LINE.steps_of(("",), ("",)), 1)
        self.assertEqual(PAIR.steps_of(("a", "bb"), ("aba",)), 8)
        self.assertEqual(BARE.steps_of(("a",), ()), 2)
        self.assertEqual(LINE.steps_of(("a" * 201,), ("b" * 9000,)), 9202)

    def test_steps_of_wrong_values(self):
        for value in but(("a",)):
            with self.assertRaises(InvalidContent):
                LINE.steps_of(value, ("a",))
            with self.assertRaises(InvalidContent):
                LINE.steps_of(("a",), value)
            with self.assertRaises(InvalidContent):
                LINE.steps_of(value, value)
        with self.assertRaises(InvalidContent):
            PAIR.steps_of(("ab",), ("a", "b"))


class TestOtherStreams(unittest.TestCase):
    def test_renamed(self):
        names = {"z": "x", "y": "w", "x": "z"}
        kept = copy.deepcopy(names)
        result = PAIR.renamed(names)
        self.assertEqual(result, Streams((("z", "a"), ("w", "b")), (("x", "ab"),)))
        self.assertEqual(names, kept)
        names["x"] = "v"
        self.assertEqual(result.names, ("z", "w", "x"))
        self.assertEqual(PAIR.names, ("x", "y", "z"))
        self.assertEqual(PAIR.renamed({"x": "x", "y": "y", "z": "z"}), PAIR)

    def test_wrong_names(self):
        wrong = [{"x": "a"}, {"x": "a", "z": "a"}, {"x": "a", "z": "b", "y": "c"}, {"x": "a", "y": "b"}, {}]
        wrong += [[("x", "a"), ("z", "b")], (("x", "a"), ("z", "b")), ("a", "b"), {"x": "a", "z": "end"}]
        wrong += [{"x": "a", "z": value} for value in but("b", "ab", "x", "z", "take", "done")]
        wrong += [{"x": "a", 1: "b"}, {"x": "a", None: "b"}, {"x": "a", ("z",): "b"}]
        for value in wrong + anything():
            with self.assertRaises(InvalidOperation):
                LINE.renamed(value)

    def test_without(self):
        self.assertEqual(PAIR.without("z"), Streams((("x", "a"), ("y", "b")), ()))
        self.assertEqual(PAIR.without("x"), Streams((("y", "b"),), (("z", "ab"),)))
        self.assertEqual(WIDE.without("q").without("t").names, ("p", "r", "s", "u"))
        self.assertEqual(len(PAIR), 3)
        with self.assertRaises(InvalidOperation):
            LINE.without("x")
        with self.assertRaises(InvalidOperation):
            BARE.without("x")

    def test_sum(self):
        other = Streams((("w", "c"),), (("v", "d"), ("u", "e")))
        self.assertEqual(str(PAIR + other), "x:a y:b w:c > z:ab v:d u:e")
        self.assertEqual(str(other + PAIR), "w:c x:a y:b > v:d u:e z:ab")
        self.assertEqual(PAIR + other, PAIR + other)
        self.assertEqual(str(PAIR), "x:a y:b > z:ab")

    def test_no_sum(self):
        four = Streams((("p", "a"), ("q", "a")), ())
        sinks = Streams((("p", "a"),), (("q", "a"), ("r", "a"), ("s", "a")))
        crossed = Streams((("z", "a"),), (("x", "a"),))
        for other in (four, sinks, PAIR, crossed, BARE):
            with self.assertRaises(InvalidOperation):
                PAIR + other
            with self.assertRaises(InvalidOperation):
                other + PAIR

    def test_sum_with_other_values(self):
        for value in anything():
            with self.assertRaises(InvalidOperation):
                LINE + value

    def test_package_objects_are_no_parts(self):
        for value in objects():
            self.assertIs(LINE.is_content((value,)), False)
        self.assertIs(COPY in LINE, False)

    def test_defined_here(self):
        for value in (is_name, is_signs, Streams):
            self.assertEqual(value.__module__, module.__name__)


if __name__ == "__main__":
    unittest.main()
