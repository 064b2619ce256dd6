"""The module alike: empty bags, differences, papers, and classes of programs that are alike."""

import itertools
import unittest

from fewersteps.algebra.bags import Bag
from fewersteps.base.streams import Streams
from fewersteps.books.program import Program, is_places
from fewersteps.decide.alike import alike_classes, apart, difference, is_alike, is_apart, is_difference, is_empty
from fewersteps.decide.alike import is_least_difference, is_short_paper, short_paper
from fewersteps.errors import InvalidBag, InvalidOperation, InvalidProgram, TooMany
from tests import oracle
from tests.cases import Case, spoil
from tests.values import BARE, COPY, EARLY, EVERY, FLIP, LATE, LINE, LOOSE, LOST, NEST, PAIR, PROGRAMS, SHUFFLE, SOUND
from tests.values import TOSS, anything, chain, long_program, ways_program

NOTHING = Program.nothing(LINE)
# Alike to COPY, with one take more.
SAME = Program(LINE, (COPY[0], ("put", "z", "a", 4), *COPY.places[2:], COPY[0]))
TINY = Streams((("x", "a"),), (("z", "a"),))


def reader(many):
    """A program of BARE that reads words whose lengths leave 0 when divided by this number."""
    places = [("take", "x", {"a": (at + 1) % many}) for at in range(many)]
    places[0] = ("take", "x", {"a": 1 % many, "end": many})
    return Program(BARE, (*places, ("done",)))


def counter(many):
    """A program of BARE that reads words with at most so many signs, by as many takes and one more."""
    places = [("take", "x", {"a": at + 1, "end": many + 1}) for at in range(many)]
    return Program(BARE, (*places, ("take", "x", {"end": many + 1}), ("done",)))


def tiny_programs():
    """All programs of TINY with one or two places, and some with three."""
    for many, ways, stride in ((1, 1, 1), (2, 2, 1), (3, 2, 1)):
        places = oracle.all_places(TINY.sources, TINY.sinks, many, ways)
        for table in itertools.islice(itertools.product(places, repeat=many), 0, None, stride):
            if is_places(TINY, table):
                yield Program(TINY, table)


def bags():
    """Bags of LINE, empty ones and others."""
    return [
        Bag.none(LINE), Bag.of(COPY), Bag.of(COPY) - SAME, Bag.of(LOST), Bag.of(TOSS) + FLIP,
        Bag(LINE, ((COPY, 2), (TOSS, -1))), Bag(LINE, ((COPY, 10 ** 59), (SAME, -10 ** 59))),
        Bag.of(COPY) * 10 ** 59 * 10 ** 59 - TOSS, Bag(LINE, ((COPY, 1), (SAME, 1), (NEST, -2))),
        Bag.of(NOTHING) - LOST,
    ]


class TestExamples(Case):
    def test_examples(self):
        self.same(
            [
                is_alike(COPY, LATE), LATE.size, apart(COPY, LATE), is_apart(COPY, TOSS, (("a",), ("a",), 1, 2)),
                is_difference(Bag.of(COPY) - TOSS, (("aa",), ("bb",))),
            ],
            [True, 9, None, True, True],
        )
        self.same(
            [is_empty(Bag.of(COPY) - COPY), short_paper(COPY, COPY), alike_classes((COPY, TOSS, LATE))],
            [True, ("alike", 1, {}), ((0, 2), (1,))],
        )


class TestEmpty(Case):
    def test_empty(self):
        for bag in bags():
            # Differences above the bound would be found here, too.
            self.assertIs(is_empty(bag), not oracle.numbers(bag, bag.bound + 3))

    def test_tiny_programs(self):
        programs = list(tiny_programs())
        self.assertTrue(len(programs) > 60, len(programs))
        tables = [oracle.table(oracle.runs_of(program, 9)) for program in programs]
        for one, other in itertools.islice(itertools.product(range(len(programs)), repeat=2), 0, None, 7):
            self.assertIs(is_alike(programs[one], programs[other]), tables[one] == tables[other])

    def test_the_last_short_step(self):
        # A least difference with just one step fewer than the bound.
        for many in (1, 2, 3, 10):
            one, other = counter(many), Program.reading(BARE)
            self.assertEqual(apart(one, other), (("a" * (many + 1),), (), 0, 1))
            self.assertEqual(BARE.steps_of(("a" * (many + 1),), ()), (Bag.of(one) - other).bound - 1)

    def test_no_use_and_order(self):
        for program in PROGRAMS:
            self.assertIs(is_alike(program, program.trimmed()), True)
            self.assertIs(is_alike(program.ordered(), program), True)
        self.assertIs(is_alike(LOST, NOTHING), True)

    def test_lost_runs(self):
        self.assertIs(is_alike(reader(2), reader(1)), False)
        self.assertEqual(apart(reader(2), reader(3)), (("aa",), (), 1, 0))
        self.assertEqual(apart(reader(3), reader(2)), (("aa",), (), 0, 1))

    def test_equivalence(self):
        # With alike bags in the place of others, sums, differences and multiples are alike.
        for bag in bags():
            self.assertIs(is_alike(bag, bag), True)
            self.assertIs(is_alike(bag + COPY, bag + SAME), True)
            self.assertIs(is_alike(bag - SAME, bag - COPY), True)
            self.assertIs(is_alike(bag * 3 + 2 * Bag.of(COPY), 3 * bag + SAME + SAME), True)
            for other in [other for other in bags() if (bag - other).flow <= 20000]:
                self.assertIs(is_alike(bag, other), is_alike(other, bag))
                self.assertIs(is_alike(bag, other), is_empty(bag - other))

    def test_programs_and_bags(self):
        self.same([is_alike(COPY, Bag.of(LATE)), is_alike(Bag.of(COPY) * 2, LATE)], [True, False])
        self.same([is_alike(Bag.none(LINE), LOST), is_alike(LOST, COPY)], [True, False])

    def test_eighty_places(self):
        self.same([is_alike(long_program(80), long_program(79)), is_alike(long_program(80), NOTHING)], [False, False])
        self.assertEqual(apart(long_program(80), NOTHING), (("",), ("ba" * 39,), 1, 0))


class TestDifference(Case):
    def test_least(self):
        for bag in bags():
            numbers = oracle.numbers(bag, bag.bound)
            least = min((LINE.steps_of(*pair) for pair in numbers), default=None)
            found = difference(bag)
            self.assertEqual(found is None, least is None)
            for pair in numbers:
                self.assertIs(is_difference(bag, pair), True)
                self.assertIs(is_least_difference(bag, pair), LINE.steps_of(*pair) == least)
            if found is not None:
                self.assertIn(found, numbers)
                self.assertIs(is_least_difference(bag, found), True)

    def test_the_least_is_not_the_first(self):
        # The first pair of the ascending ones has more steps than another one.
        blank = Program(LINE, (("take", "x", {"end": 1}), ("done",)))
        bag = Bag.of(COPY) + Program(LINE, chain(7)) - blank
        self.assertEqual(list(bag.short_numbers())[0], (("",), ("babab",)))
        self.assertIn(difference(bag), [(("a",), ("a",)), (("b",), ("b",))])
        self.assertIs(is_least_difference(bag, (("",), ("babab",))), False)

    def test_no_difference_with_the_fewest_steps(self):
        bag = Bag.of(COPY) - TOSS
        self.same([is_least_difference(bag, ((sign,), (sign,))) for sign in "ab"], [True, False])
        self.same([is_least_difference(bag, (("b",), ("a",))), is_difference(bag, (("b",), ("b",)))], [True, False])

    def test_none(self):
        bag = Bag.of(COPY) - LATE
        self.assertIsNone(difference(bag))
        self.same([is_difference(bag, (("a",), ("a",))), is_least_difference(bag, (("a",), ("a",)))], [False, False])

    def test_words_of_any_length(self):
        bag = Bag.of(COPY) - TOSS
        self.same([is_difference(bag, (("a" * 300,), ("a" * 300,))), is_difference(bag, (("",), ("",)))], [True, False])
        self.assertIs(is_difference(bag, (("a" * 9000,), ("b" * 9000,))), True)
        self.assertIs(is_difference(bag, (("a",), ("aa",))), False)
        self.assertIs(is_least_difference(bag, (("a" * 300,), ("a" * 300,))), False)
        self.assertIs(is_apart(COPY, TOSS, (("a" * 300,), ("a" * 300,), 1, 2 ** 300)), True)

    def test_every_value(self):
        bag = Bag.of(COPY) - TOSS
        values = [
            *anything(), (("a",), ("a",), 1), [("a",), ("a",)], (["a"], ("a",)), (("a",), ["a"]), ((), ()), ("a", "a"),
            (("c",), ("a",)), (("a",), (1,)), (({},), ("a",)),
        ]
        for value in values:
            self.same([is_difference(bag, value), is_least_difference(bag, value)], [False, False])

    def test_apart(self):
        values = [COPY, TOSS, FLIP, LOST, NEST, Bag(LINE, ((COPY, 3), (TOSS, -5)))]
        for one, other in itertools.product(values, repeat=2):
            found = apart(one, other)
            if is_alike(one, other):
                self.assertIsNone(found)
                continue
            pair = found[:2]
            bags_of = [value if isinstance(value, Bag) else Bag.of(value) for value in (one, other)]
            self.assertIs(is_least_difference(bags_of[0] - bags_of[1], pair), True)
            self.same(found[2:], (bags_of[0].number(*pair), bags_of[1].number(*pair)))
            self.assertIs(is_apart(one, other, found), True)
            self.assertIs(is_apart(other, one, (*pair, found[3], found[2])), True)
            self.assertIs(is_apart(other, one, found), False)

    def test_is_apart(self):
        right = (("ab",), ("aa",), 0, 4)
        self.assertIs(is_apart(COPY, TOSS, right), True)
        wrong = [
            (("ab",), ("aa",), 0, 3), (("ab",), ("aa",), 1, 4), (("ab",), ("aa",), False, 4), (("",), ("",), 1, 1),
            (("ab",), ("aa",), 0), (("ab",), ("aa",), 0, 4, 0), [("ab",), ("aa",), 0, 4], (("ab",), ("a",), 0, 0),
            (["ab"], ("aa",), 0, 4), (("ab",), ("aa",), 0, None), (("ab",), ("aa",), "0", 4), None,
        ]
        for value in wrong + anything():
            self.assertIs(is_apart(COPY, TOSS, value), False)
        self.assertIs(is_apart(COPY, TOSS, (("b",), ("b",), True, 1)), False)
        self.assertIs(is_apart(COPY, FLIP, (("b",), ("b",), True, 2)), False)
        self.assertIs(is_apart(COPY, FLIP, (("b",), ("b",), 1, 2)), True)

    def test_long_numbers(self):
        bag = Bag.of(COPY) * 10 ** 59 * 10 ** 59
        found = apart(bag, TOSS)
        self.same([found[2:], is_apart(bag, TOSS, found)], [(10 ** 118, 1), True])


class TestPaper(Case):
    def test_apart(self):
        for one, other in ((COPY, TOSS), (TOSS, COPY), (Bag.of(COPY) * 2, LATE), (LOST, COPY)):
            paper = short_paper(one, other)
            self.assertEqual(paper, ("apart", *apart(one, other)))
            self.assertIs(is_short_paper(one, other, paper), True)
            self.assertIs(is_short_paper(other, one, paper), False)
        right = ("apart", ("b",), ("a",), 0, 2)
        self.assertIs(is_short_paper(COPY, TOSS, right), True)
        wrong = [
            ("apart", ("ab",), ("aa",), 0, 4), ("apart", ("b",), ("a",), False, 2), ("apart", ("b",), ("a",), 0, 1),
            ("apart", ("b",), ("a",), 0), (("b",), ("a",), 0, 2), ["apart", ("b",), ("a",), 0, 2], ("apart",),
            ("alike",), ("alike", 7, {}), ("alike", 7, {(("",), ("",)): 1}), ("alike", ("b",), ("a",), 0, 2),
            ("apart", None, 1, 2, 3),
        ]
        for value in wrong + anything():
            self.assertIs(is_short_paper(COPY, TOSS, value), False)

    def test_alike(self):
        numbers = oracle.table(oracle.runs_of(COPY, 13))
        self.same(short_paper(COPY, LATE), ("alike", 13, numbers))
        self.assertIs(is_short_paper(COPY, LATE, ("alike", 13, numbers)), True)
        turned = {pair: numbers[pair] for pair in reversed(numbers)}
        self.assertIs(is_short_paper(COPY, LATE, ("alike", 13, turned)), True)
        pair = (("a",), ("a",))
        fewer = {key: number for key, number in numbers.items() if key != pair}
        more = [{**numbers, (("a",), ("b",)): 0}, {**numbers, (("a" * 6,), ("a" * 6,)): 1}, {**numbers, None: 1}]
        for wrong in (fewer, *more, {**numbers, pair: 2}, {**numbers, pair: True}, {**fewer, "a": 1}, {}, None, 1):
            self.assertIs(is_short_paper(COPY, LATE, ("alike", 13, wrong)), False)
        rows = [("like", 13, numbers), (None, 13, numbers), ("alike", 12, numbers), ("alike", True, numbers)]
        for wrong in rows + [("alike", 13, numbers, 0), ("alike", 13)]:
            self.assertIs(is_short_paper(COPY, LATE, wrong), False)
        for value in [("apart", ("a",), ("a",), 1, 1), *anything()]:
            self.assertIs(is_short_paper(COPY, LATE, value), False)

    def test_not_alike(self):
        one = Program(LINE, (COPY[0], *COPY.places[1:]))
        numbers = oracle.table(oracle.runs_of(COPY, 7))
        self.same([(Bag.of(one) - TOSS).bound, is_short_paper(one, TOSS, ("alike", 7, numbers))], [7, False])

    def test_true_is_not_one(self):
        found = [is_short_paper(COPY, COPY, ("alike", bound, {})) for bound in (True, 1, 2)]
        self.same(found, [False, True, False])

    def test_factors(self):
        one, other = Bag(LINE, ((COPY, 2), (TOSS, 1))), Bag(LINE, ((LATE, 2), (TOSS, 1)))
        paper = short_paper(one, other)
        self.same(paper, ("alike", 13, oracle.numbers(one, 13)))
        self.assertIs(is_short_paper(one, other, paper), True)
        self.assertIs(is_short_paper(other, one, paper), True)

    def test_numbers_that_add_up_to_none(self):
        one = Bag(LINE, ((COPY, 1), (LATE, -1)))
        self.same(short_paper(one, NOTHING), ("alike", 13, {}))

    def test_nothing_shared(self):
        paper = short_paper(COPY, LATE)
        spoil(paper)
        self.same(short_paper(COPY, LATE)[2], oracle.table(oracle.runs_of(COPY, 13)))


class TestClasses(Case):
    def test_classes(self):
        self.same(alike_classes((COPY,)), ((0,),))
        self.same(alike_classes((COPY, COPY, LATE)), ((0, 1, 2),))
        row = (LOST, TOSS, COPY, FLIP, NOTHING, LATE, TOSS, NEST)
        self.same(alike_classes(row), ((0, 4), (1, 6), (2, 5), (3,), (7,)))
        self.same(alike_classes((EARLY, LOOSE, SHUFFLE)), ((0,), (1,), (2,)))
        self.same(alike_classes((EVERY,) * 8), ((0, 1, 2, 3, 4, 5, 6, 7),))

    def test_refused(self):
        for value in anything():
            self.refused(InvalidProgram, alike_classes, value)
            if not isinstance(value, Program):
                self.refused(InvalidProgram, alike_classes, (COPY, value))
                self.refused(InvalidProgram, alike_classes, (COPY, EARLY, value))
        for value in ((), (COPY,) * 9, [COPY], (COPY, Bag.of(COPY)), (COPY, EARLY) * 5):
            self.refused(InvalidProgram, alike_classes, value)
        self.refused(InvalidOperation, alike_classes, (COPY, EARLY))
        self.refused(InvalidOperation, alike_classes, (ways_program(20001), SOUND, COPY))

    def test_limit(self):
        great = ways_program(20001)
        self.refused(TooMany, alike_classes, (SOUND, great), keeps=("limit", 20000))
        self.refused(TooMany, alike_classes, (SOUND, SOUND, great, great), keeps=("limit", 20000))
        # The first two are alike, so that the second one is compared with no other one, but this has too many runs.
        ring = Program(BARE, (*[("take", "x", {"a": (at + 1) % 12, "end": 12}) for at in range(12)], ("done",)))
        row = (Program.reading(BARE), ring, SOUND)
        self.same(alike_classes(row[:2]), ((0, 1),))
        self.same(alike_classes(row[::2]), ((0,), (1,)))
        self.refused(TooMany, alike_classes, row, keeps=("limit", 20000))
        # The difference of equal programs has no runs.
        self.same(alike_classes((great, great)), ((0, 1),))


class TestRefused(Case):
    def test_no_bag(self):
        for value in anything():
            if isinstance(value, Bag):
                continue
            for call in (is_empty, difference):
                self.refused(InvalidBag, call, value)
            for call in (is_difference, is_least_difference):
                self.refused(InvalidBag, call, value, None)
            if isinstance(value, Program):
                continue
            for call in (is_alike, apart, short_paper):
                for row in ((value, COPY), (COPY, value), (value, EARLY), (value, value)):
                    self.refused(InvalidBag, call, *row)
            for call in (is_apart, is_short_paper):
                self.refused(InvalidBag, call, value, COPY, None)
                self.refused(InvalidBag, call, Bag.of(COPY), value, None)

    def test_streams(self):
        for row in ((COPY, EARLY), (Bag.of(COPY), EARLY), (COPY, Bag.none(PAIR)), (ways_program(20001), COPY)):
            for call in (is_alike, apart, short_paper):
                self.refused(InvalidOperation, call, *row)
            for call in (is_apart, is_short_paper):
                self.refused(InvalidOperation, call, *row, None)

    def test_flow(self):
        few, great = ways_program(20000), ways_program(20001)
        for call in (is_empty, difference):
            self.refused(TooMany, call, Bag.of(great), keeps=("limit", 20000))
            call(Bag.of(few))
        for value in (None, (("",), ())):
            self.refused(TooMany, is_least_difference, Bag.of(great), value, keeps=("limit", 20000))
            self.refused(TooMany, is_short_paper, great, SOUND, value, keeps=("limit", 20000))
            self.refused(TooMany, is_short_paper, SOUND, great, value, keeps=("limit", 20000))
        for call in (is_alike, apart, short_paper):
            self.refused(TooMany, call, great, SOUND, keeps=("limit", 20000))
            call(great, great)
            call(few, Program.nothing(BARE))
        self.same(is_difference(Bag.of(great), (("",), ())), True)
        self.same(is_apart(great, SOUND, (("",), (), 20001, 1)), True)
        self.same([is_empty(Bag.of(few)), difference(Bag.of(few))], [False, (("",), ())])

    def test_runs_of_one(self):
        # The flow of the difference is small, but `one` has too many runs below its bound.
        great = ways_program(20001)
        one = Bag.of(great) - SOUND
        other = Bag.of(great) - Program.reading(BARE)
        less = one - other
        self.assertEqual(len(less), 2)
        self.assertTrue(less.flow < 100)
        self.refused(TooMany, short_paper, one, other, keeps=("limit", 20000))
        self.refused(TooMany, is_short_paper, one, other, None, keeps=("limit", 20000))
        self.assertIsNotNone(apart(one, other))
        self.assertIs(is_alike(one, other), False)
        # Below the bound 1 there are no runs.
        self.same(short_paper(great, great), ("alike", 1, {}))

    def test_unchanged(self):
        for bag in bags():
            self.unchanged(is_empty, bag)
            self.unchanged(difference, bag)
            self.unchanged(short_paper, bag, COPY)
            self.unchanged(apart, bag, SAME)


if __name__ == "__main__":
    unittest.main()
