"""The module relations."""

import itertools
import math
import unittest
from fractions import Fraction

from fewersteps.algebra.bags import Bag
from fewersteps.books.program import Program
from fewersteps.books.runs import number_of_runs
from fewersteps.decide.alike import is_alike, is_empty
from fewersteps.decide.relations import expressed, is_independent, is_relation, is_relation_paper, number_table, rank
from fewersteps.decide.relations import relation_paper, relations
from fewersteps.errors import InvalidContent, InvalidOperation, InvalidProgram, TooMany
from tests import oracle
from tests.cases import Case
from tests.values import BARE, COPY, EARLY, FLIP, LATE, LINE, LOOSE, LOST, SHUFFLE, SOUND, TOSS, anything
from tests.values import ways_program

NOTHING = Program.nothing(LINE)
READ = Program.reading(LINE)


def times(program, many):
    """The program with so many runs, from one to four, for each of its runs."""
    moved = [("either", (1,) * many)]
    for place in program.places:
        if place[0] == "take":
            moved.append((*place[:2], {step: to + 1 for step, to in place[2].items()}))
        elif place[0] == "put":
            moved.append((*place[:3], place[3] + 1))
        else:
            moved.append(("either", tuple(to + 1 for to in place[1])) if place[0] == "either" else place)
    return Program(program.streams, tuple(moved))


TWO, THREE, FOUR = times(READ, 2), times(READ, 3), times(READ, 4)
SIX = times(TWO, 3)
# Of the words of "a" alone it reads those with an even, or an odd number of signs.
EVEN = Program(BARE, (("take", "x", {"a": 1, "end": 2}), ("take", "x", {"a": 0}), ("done",)))
ODD = Program(BARE, (("take", "x", {"a": 1}), ("take", "x", {"a": 0, "end": 2}), ("done",)))
ALL = Program.reading(BARE)
DOUBLE = times(ALL, 2)
# It puts an "a" or a "b" for each sign.
EACH = Program(LINE, (("take", "x", {"a": 1, "b": 1, "end": 4}), ("either", (2, 3)), *TOSS.places[2:]))
# Alike to COPY, with one take more.
SAME = Program(LINE, (COPY[0], ("put", "z", "a", 4), *COPY.places[2:], COPY[0]))


def counts(moves):
    """The program of BARE with the takes that have these moves, and a done place behind them."""
    return Program(BARE, (*[("take", "x", row) for row in moves], ("done",)))


# One program for each word with at most five signs, and one for all with at most three.
WORDS = tuple(counts([{"a": at + 1} for at in range(many)] + [{"end": many + 1}]) for many in range(6))
SHORT = counts([{"a": 1, "end": 4}, {"a": 2, "end": 4}, {"a": 3, "end": 4}, {"end": 4}])
TUPLES = [
    (COPY,), (LOST,), (COPY, LATE), (COPY, COPY, TOSS), (TOSS, TOSS), (TOSS, FLIP), (TOSS, FLIP, EACH),
    (LOST, COPY, NOTHING),
    (READ, TWO, THREE), (THREE, TWO, READ), (TWO, THREE), (TWO, THREE, FOUR, SIX), (SIX, FOUR), (EVEN, ODD, ALL),
    (ALL, ODD, EVEN), (EVEN, ODD, ALL, DOUBLE, SOUND, EVEN), (DOUBLE, EVEN, ODD), (EARLY, LOOSE, EARLY),
    (DOUBLE, SOUND, EVEN), (EACH, EACH, EACH, EACH, EACH, EACH), (COPY, SAME, TOSS), WORDS, (*WORDS[:4], SHORT, ALL),
]


def numbers(programs):
    """The rows of the numbers of the programs for all short contents and fillings, by a plain search."""
    different = [program for at, program in enumerate(programs) if program not in programs[:at]]
    bound = sum(program.size for program in different) + 1
    tables = [oracle.table(oracle.runs_of(program, bound)) for program in programs]
    pairs = sorted({pair for table in tables for pair in table})
    return [[table.get(pair, 0) for table in tables] for pair in pairs]


def determinant(table):
    """The determinant, by the sum over all orders."""
    total = 0
    for order in itertools.permutations(range(len(table))):
        sign = (-1) ** sum(one > other for at, one in enumerate(order) for other in order[at + 1:])
        total += sign * math.prod(table[at][to] for at, to in enumerate(order))
    return total


def rational_rank(rows):
    """The rank of rows, with fractions."""
    rows, found = [[Fraction(entry) for entry in row] for row in rows], 0
    for at in range(len(rows[0]) if rows else 0):
        filled = [row for row in rows if row[at]]
        if filled:
            first = filled[0]
            rest = [row for row in rows if row is not first]
            rows = [[entry - row[at] / first[at] * other for entry, other in zip(row, first)] for row in rest]
            found += 1
    return found


class TestExamples(Case):
    def test_examples(self):
        self.same(
            [
                relations((COPY, LATE)), rank((COPY, COPY, TOSS)), relations((TOSS, TOSS)),
                is_relation((COPY, LATE), (3, -3)), is_independent((TOSS, FLIP)),
            ],
            [((1, -1),), 2, ((1, -1),), True, True],
        )
        self.same(
            [expressed((COPY,), LATE), number_table((COPY, TOSS), ((("a",), ("a",)), (("a",), ("b",))))],
            [(1,), ((1, 2), (0, 1))],
        )
        self.assertIs(is_relation_paper((COPY, LATE), (((1, -1),), (0,), ((("",), ("",)),))), True)


class TestBasis(Case):
    def test_known(self):
        self.same(relations((READ, TWO, THREE)), ((1, 1, -1), (0, 3, -2)))
        self.same(relations((THREE, TWO, READ)), ((1, 0, -3), (0, 1, -2)))
        self.same(relations((TWO, THREE)), ((3, -2),))
        self.same(relations((SIX, FOUR)), ((2, -3),))
        self.same(relations((EVEN, ODD, ALL)), ((1, 1, -1),))
        self.same(relations((DOUBLE, EVEN, ODD)), ((1, -2, -2),))
        self.same(relations((TOSS, FLIP)), ())
        self.same(relations((LOST, COPY, NOTHING)), ((1, 0, 0), (0, 0, 1)))
        self.same(relations((LOST,)), ((1,),))
        self.same(relations((COPY, LATE, COPY)), ((1, 0, -1), (0, 1, -1)))
        self.same(relations((TOSS,) * 6)[4], (0, 0, 0, 0, 1, -1))

    def test_form(self):
        for programs in TUPLES:
            basis = relations(programs)
            firsts = []
            for row in basis:
                self.assertEqual(len(row), len(programs))
                firsts.append(next(at for at, entry in enumerate(row) if entry))
                self.assertGreater(row[firsts[-1]], 0)
            self.assertEqual(firsts, sorted(set(firsts)))
            for at, first in enumerate(firsts):
                for above in basis[:at]:
                    self.assertTrue(0 <= above[first] < basis[at][first])

    def test_rows_are_relations(self):
        for programs in TUPLES:
            for row in relations(programs):
                self.assertIs(is_relation(programs, row), True)
                self.assertIs(is_empty(Bag(programs[0].streams, tuple(zip(programs, row)))), True)

    def test_all_relations_come_of_it(self):
        for programs in TUPLES:
            basis, rows = relations(programs), numbers(programs)
            self.assertEqual(len(programs) - len(basis), rational_rank(rows))
            self.assertEqual(rank(programs), rational_rank(rows))
            self.assertIs(is_independent(programs), not basis)
            # If the greatest minors have no common divisor, integer relations are integer sums of the rows.
            columns = itertools.combinations(range(len(programs)), len(basis))
            minors = [determinant([[row[at] for at in kept] for row in basis]) for kept in columns]
            self.assertEqual(math.gcd(*minors), 1)

    def test_other_orders(self):
        programs = (READ, TWO, THREE, FOUR)
        for order in itertools.permutations(range(4)):
            basis = relations(tuple(programs[at] for at in order))
            self.assertEqual(len(basis), 3)
            for row in basis:
                straight = [row[order.index(at)] for at in range(4)]
                self.assertIs(is_relation(programs, tuple(straight)), True)

    def test_six_programs(self):
        self.same([relations(WORDS), rank(WORDS)], [(), 6])
        self.same(relations((*WORDS[:4], SHORT, ALL)), ((1, 1, 1, 1, -1, 0),))
        self.same(rank((LATE,) * 6), 1)


class TestIsRelation(Case):
    def test_all_small_rows(self):
        for programs in [programs for programs in TUPLES if len(programs) < 4]:
            rows = numbers(programs)
            for value in itertools.product(range(-3, 4), repeat=len(programs)):
                expected = all(sum(a * b for a, b in zip(value, row)) == 0 for row in rows)
                self.assertIs(is_relation(programs, value), expected)

    def test_sums_of_multiples(self):
        for programs in TUPLES:
            basis = relations(programs)
            for many in itertools.islice(itertools.product((-2, 0, 1, 10 ** 20), repeat=len(basis)), 20):
                value = tuple(sum(n * row[at] for n, row in zip(many, basis)) for at in range(len(programs)))
                self.assertIs(is_relation(programs, value), True)
                last = (0,) * (len(programs) - 1) + (1,)
                self.assertIs(is_relation(programs, (*value[:-1], value[-1] + 1)), last in basis)

    def test_wrong_values(self):
        for value in [*anything(), (1,), (1, -1, 0), [1, -1], (True, -1), (1, "-1"), (1, None), ((1, -1),), (1, -2)]:
            self.assertIs(is_relation((COPY, LATE), value), False)
        self.same([is_relation((COPY, LATE), (0, 0)), is_relation((LOST, LOST), (False, 0))], [True, False])
        self.assertIs(is_relation((COPY, LATE), (10 ** 60 - 1, 1 - 10 ** 60)), True)
        # A longer integer is none of those that can be passed.
        self.assertIs(is_relation((COPY, LATE), (10 ** 60, -10 ** 60)), False)


class TestPaper(Case):
    def test_papers(self):
        for programs in TUPLES:
            paper = relation_paper(programs)
            self.assertIs(is_relation_paper(programs, paper), True)
            basis, indices, runs = paper
            self.same(basis, relations(programs))
            self.assertEqual([len(indices), len(runs)], [rank(programs)] * 2)
            table = [[number_of_runs(programs[at], *pair) for at in indices] for pair in runs]
            self.assertNotEqual(determinant(table), 0)

    def test_other_indices_and_runs(self):
        programs = (COPY, SAME, TOSS)
        basis = relations(programs)
        bound = COPY.size + SAME.size + TOSS.size + 1
        pairs = [((word,), (filling,)) for word in ("", "a", "ab", "a" * 8) for filling in ("", "a", "b", "a" * 8)]
        for indices in [(), (0,), (0, 1), (0, 2), (1, 2), (2, 1), (0, 0), (0, 1, 2), (0, 3), (-1, 0)]:
            for runs in itertools.permutations(pairs, 2):
                right = indices in ((0, 2), (1, 2)) and all(LINE.steps_of(*pair) < bound for pair in runs)
                if right:
                    right = determinant([[number_of_runs(programs[at], *pair) for at in indices] for pair in runs]) != 0
                self.assertIs(is_relation_paper(programs, (basis, indices, runs)), right)

    def test_the_bound(self):
        # The bound is 4 for two equal programs of size 3.
        basis = ((1, -1),)
        for word, right in (("", True), ("a", True), ("ab", False)):
            self.assertIs(is_relation_paper((COPY, COPY), (basis, (1,), (((word,), (word,)),))), right)
        # It is 13 for these, and the last pair has 13 steps.
        for word, right in (("ab", True), ("ababa", True), ("ababab", False)):
            self.assertIs(is_relation_paper((COPY, LATE), (basis, (1,), (((word,), (word,)),))), right)

    def test_how_many(self):
        one, two = (("",), ("",)), (("a",), ("b",))
        self.assertIs(is_relation_paper((TOSS, FLIP), ((), (0, 1), (one, two))), True)
        for indices, runs in (((0, 1), (one,)), ((0,), (one, two)), ((0,), (one,)), ((), ())):
            self.assertIs(is_relation_paper((TOSS, FLIP), ((), indices, runs)), False)
        basis = relations((TOSS, FLIP, TOSS))
        for indices, right in (((0, 1), True), ((1, 2), True), ((0, 2), False), ((0, 1, 2), False), ((0,), False)):
            self.assertIs(is_relation_paper((TOSS, FLIP, TOSS), (basis, indices, (one, two))), right)

    def test_wrong_values(self):
        right = (((1, -1),), (0,), ((("a",), ("a",)),))
        self.assertIs(is_relation_paper((COPY, LATE), right), True)
        wrong = [
            (((True, -1),), *right[1:]), (((1, -1, 0),), *right[1:]), (((2, -2),), *right[1:]), ((), *right[1:]),
            ([(1, -1)], *right[1:]), (((-1, 1),), *right[1:]), (([1, -1],), *right[1:]),
            (((1, -1), (0, 0)), *right[1:]),
            (right[0], (False,), right[2]), (right[0], [0], right[2]), (right[0], (2,), right[2]), (right[0], (), ()),
            (right[0], (0,), [(("a",), ("a",))]), (right[0], (0,), ((("a",), ("b",)),)),
            (right[0], (0,), (("a", "a"),)),
            (right[0], (0,), ((("a",), ("a",)),) * 2), (right[0], (0, 1), ((("a",), ("a",)),) * 2), right[:2],
            (right[0], (0,), ((("c",), ("a",)),)), (right[0], (0,), ((["a"], ("a",)),)), list(right), (*right, ()),
            (right[0], (0,), ((("a",), ("a",), ()),)), (right[0], (0,), ((("a",), "a"),)), (*right[:2], ((("a",),),)),
            (right[0], (0,), ((("a",), ("a", "")),)), (right[0], (0,), ((("a",), ("c",)),)), (*right[:2], (right[2],)),
            (right[0], (None,), right[2]), (right[0], (0,), (None,)), (None, None, None),
        ]
        for value in wrong + anything():
            self.assertIs(is_relation_paper((COPY, LATE), value), False)

    def test_equal_runs(self):
        pair = (("",), ("",))
        self.assertIs(is_relation_paper((TOSS, FLIP), ((), (0, 1), (pair, pair))), False)
        self.assertIs(is_relation_paper((TOSS, FLIP), ((), (0, 1), (pair, (("a",), ("b",))))), True)

    def test_no_rows(self):
        self.same(relation_paper((LOST,)), (((1,),), (), ()))
        self.assertIs(is_relation_paper((LOST, NOTHING), (((1, 0), (0, 1)), (), ())), True)


class TestExpressed(Case):
    def test_expressed(self):
        wanted = (COPY, TOSS, EACH, READ, TWO, ALL, DOUBLE, EVEN, EARLY, NOTHING)
        for programs, program in itertools.product(TUPLES, wanted):
            if program.streams != programs[0].streams:
                continue
            try:
                found = expressed(programs, program)
            except TooMany:
                continue
            basis = relations((*programs, program)) if len(programs) < 6 else ()
            if found is not None:
                self.assertTrue(all(type(factor) is int for factor in found) and len(found) == len(programs))
                bag = Bag(program.streams, tuple(zip(programs, found)))
                self.assertIs(is_alike(bag, program), True)
            elif len(programs) < 6:
                # With the program last, an answer is a relation with the last entry -1.
                entries = [row[-1] for row in basis]
                self.assertNotEqual(math.gcd(*entries), 1)

    def test_known(self):
        self.same([expressed((TWO,), READ), expressed((READ,), TWO)], [None, (2,)])
        self.assertEqual(sum(a * b for a, b in zip(expressed((TWO, FOUR), SIX), (2, 4))), 6)
        self.same(expressed((TWO, FOUR), THREE), None)
        self.same(expressed((EVEN, ODD), ALL), (1, 1))
        self.same(expressed((DOUBLE, EVEN), ODD), None)
        self.same(expressed((ALL, EVEN), ODD), (1, -1))
        self.same(expressed((COPY,), NOTHING), (0,))
        self.same(expressed((LOST,), COPY), None)
        factors = expressed((TWO, THREE), READ)
        self.assertEqual(2 * factors[0] + 3 * factors[1], 1)


class TestTable(Case):
    def test_table(self):
        runs = ((("ab",), ("ab",)), (("",), ("",)), (("ab",), ("ab",)), (("a" * 200,), ("a" * 200,)))
        self.same(number_table((COPY, TOSS), runs), ((1, 2), (1, 1), (1, 2), (1, 2 ** 200)))
        self.same(number_table((COPY, COPY, FLIP), runs[:1]), ((1, 1, 2),))
        self.same(number_table((COPY,), ()), ())
        self.same(number_table((EARLY, SHUFFLE), ((("a", "b"), ("a",)),)), ((1, 0),))

    def test_wrong_runs(self):
        for value in [*anything(), [(("a",), ("a",))], ((("a",), ("a",)), None)]:
            if value != ():
                self.refused(InvalidContent, number_table, (COPY, TOSS), value)
            for pair in ((("a",), value), (value, ("a",)), value, (("a",), ("a",), value)):
                if value not in (("a",), ("",)):
                    self.refused(InvalidContent, number_table, (COPY, TOSS), (pair,))
        for pair in ((("a" * 201,), ("a",)), (("a",), ("a" * 201,)), (("c",), ("a",)), (("a",), ()), [("a",), ("a",)]):
            self.refused(InvalidContent, number_table, (COPY, TOSS), (pair,))
            self.refused(InvalidContent, number_table, (COPY, TOSS), ((("a",), ("a",)), pair))


CALLS = [
    relations, rank, relation_paper, is_independent, lambda programs: is_relation(programs, None),
    lambda programs: is_relation_paper(programs, None), lambda programs: expressed(programs, COPY),
    lambda programs: number_table(programs, ()), lambda programs: number_table(programs, None),
    lambda programs: expressed(programs, None),
]


class TestRefused(Case):
    def test_programs(self):
        for call in CALLS:
            for value in anything():
                self.refused(InvalidProgram, call, value)
                if not isinstance(value, Program):
                    self.refused(InvalidProgram, call, (COPY, EARLY, value))
                    self.refused(InvalidProgram, call, (value, COPY))
            for value in ((), (COPY,) * 7, [COPY], (COPY, Bag.of(COPY)), COPY):
                self.refused(InvalidProgram, call, value)

    def test_streams(self):
        for call in CALLS[:-1]:
            self.refused(InvalidOperation, call, (COPY, EARLY))
            self.refused(InvalidOperation, call, (ways_program(20001), COPY))

    def test_flow(self):
        few, great = ways_program(20000), ways_program(20001)
        for call in CALLS[:-1]:
            self.refused(TooMany, call, (great,), keeps=("limit", 20000))
            self.refused(TooMany, call, (ALL, great, great), keeps=("limit", 20000))
        self.same(relations((few,)), ())
        self.same(relations((few, few)), ((1, -1),))
        self.same(rank((few, few, few)), 1)
        # With another program the bound is greater, and there are more runs.
        self.refused(TooMany, relations, (few, ALL), keeps=("limit", 20000))

    def test_expressed(self):
        few, great = ways_program(20000), ways_program(20001)
        for value in anything():
            if not isinstance(value, Program):
                self.refused(InvalidProgram, expressed, (COPY,), value)
                self.refused(InvalidProgram, expressed, (COPY, EARLY), value)
                self.refused(InvalidProgram, expressed, (great,), value)
        self.refused(InvalidOperation, expressed, (COPY,), EARLY)
        # The errors of the programs alone come first.
        self.refused(InvalidOperation, expressed, (COPY, EARLY), great)
        self.refused(TooMany, expressed, (great,), COPY, keeps=("limit", 20000))
        self.refused(InvalidOperation, expressed, (few,), COPY)
        self.refused(TooMany, expressed, (few,), ALL, keeps=("limit", 20000))
        self.same(expressed((few,), few), (1,))

    def test_unchanged(self):
        for programs in TUPLES:
            for call in CALLS[:4]:
                self.unchanged(call, programs)


if __name__ == "__main__":
    unittest.main()
