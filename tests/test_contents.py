"""The lists and the numbers of contents."""

import itertools
import math
import types
import unittest

from fewersteps.base.streams import Streams
from fewersteps.errors import InvalidNumber
from tests.values import BARE, LINE, PAIR, WIDE, anything


def words(signs, most):
    """All words with at most so many signs."""
    found = []
    for length in range(most + 1):
        found.extend("".join(word) for word in itertools.product(signs, repeat=length))
    return found


def all_contents(streams, most):
    """What `contents` has to yield, by sorting all there are."""
    rows = itertools.product(*[words(signs, most) for _, signs in streams.sources])
    rows = [row for row in rows if len("".join(row)) <= most]
    return sorted(rows, key=lambda row: (len("".join(row)), row))


class TestLists(unittest.TestCase):
    def test_example(self):
        self.assertEqual(list(LINE.contents(2)), [("",), ("a",), ("b",), ("aa",), ("ab",), ("ba",), ("bb",)])

    def test_two_sources(self):
        expected = [("", ""), ("", "b"), ("a", ""), ("", "bb"), ("a", "b"), ("aa", "")]
        self.assertEqual(list(PAIR.contents(2)), expected)

    def test_all_small_ones(self):
        mixed = Streams((("y", "ac"), ("x", "b")), ())
        for streams, most in ((LINE, 6), (PAIR, 7), (BARE, 9), (WIDE, 3), (mixed, 5)):
            for many in range(most + 1):
                self.assertEqual(list(streams.contents(many)), all_contents(streams, many))

    def test_none(self):
        self.assertEqual(list(WIDE.contents(0)), [("", "", "")])

    def test_edges(self):
        rows = list(BARE.contents(40))
        self.assertEqual(rows, [("a" * length,) for length in range(41)])
        self.assertEqual(sum(1 for row in PAIR.contents(40)), 41 * 42 // 2)

    def test_made_when_asked_for(self):
        rows = WIDE.contents(40)
        self.assertIsInstance(rows, types.GeneratorType)
        self.assertEqual(next(rows), ("", "", ""))
        first = list(itertools.islice(rows, 500))
        self.assertEqual([("", "", "")] + first, all_contents(WIDE, 5)[:501])

    def test_equal_calls(self):
        one, other = PAIR.contents(3), PAIR.contents(3)
        self.assertEqual([pair[0] == pair[1] for pair in zip(one, other)], [True] * 10)


class TestCounts(unittest.TestCase):
    def test_examples(self):
        self.assertEqual([LINE.count(2), PAIR.count(2)], [4, 3])

    def test_like_the_lists(self):
        for streams, most in ((LINE, 6), (PAIR, 8), (BARE, 9), (WIDE, 4)):
            rows = list(streams.contents(most))
            for many in range(most + 1):
                self.assertEqual(streams.count(many), len([row for row in rows if len("".join(row)) == many]))

    def test_edges(self):
        three = Streams((("x", "abcd"), ("y", "abcd"), ("z", "abcd")), ())
        self.assertEqual([three.count(0), BARE.count(0), BARE.count(40)], [1, 1, 1])
        self.assertEqual(three.count(40), 4 ** 40 * math.comb(42, 2))
        self.assertEqual(LINE.count(40), 2 ** 40)


class TestErrors(unittest.TestCase):
    def wrong(self):
        right = range(41)
        return [value for value in anything() if type(value) is not int or value not in right]

    def test_count(self):
        for value in self.wrong():
            with self.assertRaises(InvalidNumber) as caught:
                PAIR.count(value)
            self.assertIs(caught.exception.given, value)

    def test_contents_raise_at_the_first_element(self):
        for value in self.wrong():
            rows = PAIR.contents(value)
            with self.assertRaises(InvalidNumber) as caught:
                next(rows)
            self.assertIs(caught.exception.given, value)

    def test_limits(self):
        for value in (-1, 41, True, False):
            with self.assertRaises(InvalidNumber):
                LINE.count(value)
            with self.assertRaises(InvalidNumber):
                list(LINE.contents(value))


if __name__ == "__main__":
    unittest.main()
