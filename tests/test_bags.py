"""The class Bag."""

import unittest

from fewersteps.algebra.bags import Bag
from fewersteps.base.streams import Streams
from fewersteps.books.flows import flow
from fewersteps.books.program import Program
from fewersteps.errors import InvalidBag, InvalidContent, InvalidOperation, InvalidProgram, InvalidStreams, TooMany
from tests import oracle
from tests.cases import Case, spoil
from tests.values import BARE, COPY, EARLY, FLIP, LATE, LINE, LOST, NEST, PAIR, SHUFFLE, SOUND, TOSS, anything
from tests.values import long_program, ways_program

LONG = 10 ** 60 - 1


class TestBag(Case):
    def test_examples(self):
        bag = Bag(LINE, ((COPY, 2), (TOSS, -1)))
        self.same(
            [
                bag.bound, bag.flow, bag.number(("a",), ("b",)), bag.number(("a",), ("a",)), str(bag - COPY - COPY),
                len(bag * 0),
            ],
            [7, 50, -1, 0, "bag of 1 programs, bound 4", 0],
        )

    def test_pairs(self):
        other = Program(LINE, COPY.places)
        bag = Bag(LINE, ((COPY, 2), (TOSS, 0), (LATE, 5), (other, -3), (FLIP, 1), (LATE, -5)))
        self.assertEqual(bag.pairs, ((COPY, -1), (FLIP, 1)))
        self.assertEqual([bag.streams, len(bag), bool(bag)], [LINE, 2, True])
        self.assertEqual(Bag(LINE, ((COPY, 1), (LATE, 3), (COPY, -1), (COPY, 2))).pairs, ((COPY, 2), (LATE, 3)))
        self.assertEqual(Bag(LINE, ((COPY, LONG), (COPY, LONG))).pairs, ((COPY, 2 * LONG),))

    def test_none(self):
        for bag in (Bag(LINE, ()), Bag.none(LINE), Bag(LINE, ((COPY, 0),)), Bag.of(TOSS) - TOSS):
            self.same([bag.pairs, len(bag), bool(bag), bag.bound, bag.flow], [(), 0, False, 1, 0])
            self.same([bag.short_numbers(), bag.number(("a",), ("a",))], [{}, 0])
            self.assertEqual(str(bag), "bag of 0 programs, bound 1")
            self.assertEqual(bag, Bag.none(LINE))
        self.assertNotEqual(Bag.none(LINE), Bag.none(PAIR))

    def test_of(self):
        bag = Bag.of(EARLY)
        self.assertEqual([bag.streams, bag.pairs], [PAIR, ((EARLY, 1),)])
        self.assertIsInstance(Bag.__dict__["of"], classmethod)

    def test_true_though_empty(self):
        bag = Bag.of(COPY) - LATE
        self.same([bool(bag), len(bag), bag.short_numbers(), bag.bound], [True, 2, {}, 13])
        self.assertIs(bool(Bag.of(LOST)), True)

    def test_bound_and_flow(self):
        self.assertEqual([Bag.of(LOST).bound, Bag.of(LOST).flow], [1, 0])
        bag = Bag(LINE, ((COPY, 5), (TOSS, -7), (LATE, 1)))
        self.assertEqual(bag.bound, COPY.size + TOSS.size + LATE.size + 1)
        self.assertEqual(bag.flow, sum(flow(program, bag.bound) for program in (COPY, TOSS, LATE)))
        self.assertEqual(bag.flow, bag.flow)
        self.assertEqual((bag + COPY).flow, bag.flow)
        self.assertEqual((bag - LATE).flow, flow(COPY, 7) + flow(TOSS, 7))

    def test_bounds_beyond_two_hundred(self):
        programs = [long_program(many) for many in (80, 79, 78)]
        bag = Bag(LINE, tuple((program, 1) for program in programs))
        self.same([bag.bound, bag.flow, len(bag.short_numbers())], [79 + 78 + 77 + 1, 3, 3])

    def test_numbers(self):
        bag = Bag(LINE, ((COPY, 2), (TOSS, -1), (NEST, 10 ** 40)))
        found = oracle.numbers(bag, 8)
        for pair, number in found.items():
            self.assertEqual(bag.number(*pair), number)
        self.assertEqual(bag.number(("bbbb",), ("",)), 0)
        self.assertEqual((bag - 10 ** 40 * Bag.of(NEST)).number(("a" * 200,), ("a" * 200,)), 2 - 2 ** 200)
        self.same(bag.short_numbers(), oracle.numbers(bag, bag.bound))
        self.same(Bag.of(SHUFFLE).short_numbers(), oracle.numbers(Bag.of(SHUFFLE), Bag.of(SHUFFLE).bound))

    def test_cancelled_numbers_are_left_out(self):
        bag = Bag(LINE, ((TOSS, 1), (FLIP, 1), (COPY, -3)))
        numbers = bag.short_numbers()
        self.same(numbers, oracle.numbers(bag, bag.bound))
        self.assertNotIn((("a",), ("a",)), numbers)
        self.assertEqual([bag.number(("a",), ("a",)), bag.number(("a",), ("b",))], [0, 3])
        spoil(numbers)
        self.assertEqual(bag.short_numbers(), oracle.numbers(bag, bag.bound))

    def test_factor(self):
        bag = Bag(LINE, ((COPY, 2), (TOSS, -1)))
        self.same([bag.factor(COPY), bag.factor(Program(LINE, TOSS.places)), bag.factor(LATE)], [2, -1, 0])
        self.same([bag.factor(EARLY), Bag.none(LINE).factor(COPY)], [0, 0])

    def test_in(self):
        bag = Bag(LINE, ((COPY, 2), (TOSS, -1)))
        found = [program in bag for program in (COPY, Program(LINE, TOSS.places), LATE, EARLY)]
        self.same(found, [True, True, False, False])
        for value in anything():
            if not isinstance(value, Program):
                self.assertIs(value in bag, False)

    def test_not_iterated(self):
        for call in (iter, list, lambda value: value[0]):
            self.refused(TypeError, call, Bag.of(COPY))

    def test_properties(self):
        for name in ("streams", "pairs", "bound", "flow"):
            with self.assertRaises(AttributeError):
                setattr(Bag.of(COPY), name, 1)


class TestOperators(Case):
    def test_sums(self):
        one = Bag(LINE, ((COPY, 2), (TOSS, -1)))
        two = Bag(LINE, ((LATE, 1), (TOSS, 1), (COPY, 1)))
        self.assertEqual((one + two).pairs, ((COPY, 3), (LATE, 1)))
        self.assertEqual((two + one).pairs, ((LATE, 1), (COPY, 3)))
        self.assertEqual((one - two).pairs, ((COPY, 1), (TOSS, -2), (LATE, -1)))
        self.assertEqual((one + LATE).pairs, ((COPY, 2), (TOSS, -1), (LATE, 1)))
        self.assertEqual((one - LATE).pairs, ((COPY, 2), (TOSS, -1), (LATE, -1)))
        self.assertEqual((one + TOSS).pairs, ((COPY, 2),))
        self.assertEqual((-one).pairs, ((COPY, -2), (TOSS, 1)))
        self.assertEqual([one.pairs, len(two)], [((COPY, 2), (TOSS, -1)), 3])

    def test_multiples(self):
        one = Bag(LINE, ((COPY, 2), (TOSS, -1)))
        for many in (0, 1, -1, 3, LONG, -LONG):
            expected = tuple((program, factor * many) for program, factor in one.pairs if many)
            self.assertEqual([(one * many).pairs, (many * one).pairs], [expected, expected])
        self.assertEqual((one * LONG * LONG).pairs, ((COPY, 2 * LONG * LONG), (TOSS, -LONG * LONG)))
        great = one * LONG * LONG
        self.assertEqual((great + great - great * 2).pairs, ())
        self.assertEqual(great.number(("a",), ("b",)), -LONG * LONG)

    def test_equal(self):
        one = Bag(LINE, ((COPY, 2), (TOSS, -1)))
        self.assertTrue(one == Bag(LINE, ((TOSS, -1), (COPY, 2))))
        self.assertFalse(one != Bag(LINE, ((TOSS, -1), (COPY, 2))))
        for rest in ((), ((TOSS, 1),), ((LATE, -1),), ((TOSS, -1), (LATE, 1))):
            other = Bag(LINE, ((COPY, 2), *rest))
            self.assertTrue(one != other and other != one)
        self.assertNotEqual(Bag.of(COPY), Bag.of(LATE))
        for value in anything():
            if not isinstance(value, Bag):
                self.assertFalse(one == value)
                self.assertTrue(one != value)

    def test_wrong_operands(self):
        bag = Bag(LINE, ((COPY, 2), (TOSS, -1)))
        wrong = [value for value in anything() if not isinstance(value, (Bag, Program))]
        for value in [*wrong, EARLY, Bag.of(EARLY), Bag.none(PAIR), LINE]:
            self.refused(InvalidOperation, lambda: bag + value)
            self.refused(InvalidOperation, lambda: bag - value)
        for value in anything():
            if type(value) is not int or abs(value) > LONG:
                self.refused(InvalidOperation, lambda: bag * value)
                self.refused(InvalidOperation, lambda: value * bag)
        self.refused(InvalidOperation, lambda: bag * bag)
        self.assertEqual(bag.pairs, ((COPY, 2), (TOSS, -1)))


class TestRefused(Case):
    def test_streams(self):
        for value in anything():
            if not isinstance(value, Streams):
                self.refused(InvalidBag, Bag, value, ())
                self.refused(InvalidBag, Bag, value, ((COPY, 1),))
                self.refused(InvalidStreams, Bag.none, value)

    def test_pairs(self):
        for value in anything():
            if value != ():
                self.refused(InvalidBag, Bag, LINE, value)
            if type(value) is not int or abs(value) > LONG:
                self.refused(InvalidBag, Bag, LINE, ((COPY, value),))
                self.refused(InvalidBag, Bag, LINE, ((COPY, 1), (TOSS, value)))
            if not isinstance(value, Program):
                self.refused(InvalidBag, Bag, LINE, ((value, 1),))
            self.refused(InvalidBag, Bag, LINE, ((COPY, 1), value))
        for pairs in ([(COPY, 1)], ([COPY, 1],), ((COPY,),), ((COPY, 1, 1),), ((EARLY, 1),), ((COPY, 1), (EARLY, 0))):
            self.refused(InvalidBag, Bag, LINE, pairs)
        self.refused(InvalidBag, Bag, PAIR, ((COPY, 1),))
        Bag(LINE, ((COPY, LONG), (TOSS, -LONG)))

    def test_program(self):
        for value in anything():
            if not isinstance(value, Program):
                self.refused(InvalidProgram, Bag.of, value)
                self.refused(InvalidProgram, Bag.of(COPY).factor, value)

    def test_content(self):
        bag = Bag.of(COPY)
        for value in [*anything(), ("c",), ("a", "b"), ("a" * 201,), ["a"]]:
            if value not in (("a",), ("",)):
                self.refused(InvalidContent, bag.number, value, ("a",))
                self.refused(InvalidContent, bag.number, value, None)
                self.refused(InvalidContent, bag.number, ("a",), value)
        self.assertEqual(bag.number(("a" * 200,), ("a" * 200,)), 1)
        self.refused(InvalidContent, Bag.none(BARE).number, ("a",), ("a",))

    def test_flow(self):
        # The bound is 2, so that the flow is the number of all runs.
        self.same([Bag.of(ways_program(20000)).flow, Bag.of(ways_program(20001)).flow], [20000, 20001])
        self.same(Bag.of(ways_program(20000)).short_numbers(), {(("",), ()): 20000})
        self.refused(TooMany, Bag.of(ways_program(20001)).short_numbers, keeps=("limit", 20000))
        bag = Bag(BARE, ((ways_program(20000), 3), (SOUND, -1)))
        self.refused(TooMany, bag.short_numbers, keeps=("limit", 20000))
        self.assertEqual([bag.number(("",), ()), bag.flow], [60000 - 1, 20000 + 4])


if __name__ == "__main__":
    unittest.main()
