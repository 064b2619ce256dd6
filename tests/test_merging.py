"""The module merging: alike places, what parts places, and slim and merged programs."""

import copy
import itertools
import random
import unittest

from fewersteps.base.streams import Streams
from fewersteps.books.places import is_right
from fewersteps.books.program import Program, is_places, made_program
from fewersteps.books.runs import fillings
from fewersteps.change.exchanges import possible_exchanges, with_exchange
from fewersteps.change.merging import alike_places, apart_paper, is_apart_paper, is_place_difference, merged
from fewersteps.change.merging import place_difference, slim
from fewersteps.decide.alike import is_alike
from fewersteps.errors import InvalidNumber, InvalidOperation, InvalidProgram, TooMany
from tests import oracle, slow_merging
from tests.cases import Case, spoil
from tests.test_alike import counter
from tests.test_exchanges import MORE, WAYS, loop
from tests.values import BARE, COPY, EVERY, LATE, LINE, LOOSE, LOST, NEST, PAIR, SHUFFLE, SOUND, THREE, TOSS
from tests.values import anything, but, long_program, ways_program

TINY = Streams((("x", "a"),), (("z", "a"),))
DOUBLE = with_exchange(COPY, ("copy", 1, 0))
NOTHING = Program.nothing(PAIR)
# Chains of either places with one place in them, at place 0, in the middle, and by what trimming leaves.
CHAINS = Program(
    LINE,
    (
        ("either", (1,)), ("either", (2,)), ("take", "x", {"a": 3, "b": 6, "end": 9}), ("either", (4, 8)),
        ("either", (5,)), ("put", "z", "a", 0), ("either", (7, 7)), ("either", (1,)), ("take", "x", {"a": 8}),
        ("done",),
    ),
)
# Places 1 to 4 have the same tails, but other sources have ended at 1 and 2 than at 3 and 4; 5 to 8 have none.
ENDS = Program(
    PAIR,
    (
        ("either", (9, 10, 11)), ("take", "y", {"end": 12}), ("take", "y", {"end": 12}), ("take", "x", {"end": 12}),
        ("take", "x", {"end": 12}), ("take", "x", {}), ("take", "x", {}), ("take", "x", {}), ("take", "y", {}),
        ("take", "x", {"end": 1, "a": 5}), ("either", (13, 6)), ("take", "y", {"b": 11, "end": 4}), ("done",),
        ("either", (14, 15)), ("take", "y", {"end": 3, "b": 16}), ("take", "x", {"end": 17, "a": 18}),
        ("take", "y", {"end": 7}), ("either", (2, 8)), ("take", "y", {"b": 5}),
    ),
)
# Two chains of equal puts, which lead to takes of the end.
HALVES = made_program(
    LINE,
    (
        ("take", "x", {"a": 1, "b": 40, "end": 79}), *(("put", "z", "a", at + 1) for at in range(1, 39)),
        ("take", "x", {"end": 79}), *(("put", "z", "a", at + 1) for at in range(40, 78)), ("take", "x", {"end": 79}),
        ("done",),
    ),
)
SLOW = [program for program in MORE if program not in (EVERY, THREE, SOUND)] + [CHAINS, ENDS, DOUBLE]


def tiny_programs():
    """All programs of TINY with one or two places, and some with three and four."""
    for many, ways, stride in ((1, 1, 1), (2, 2, 1), (3, 2, 1), (4, 2, 997)):
        places = oracle.all_places(TINY.sources, TINY.sinks, many, ways)
        for table in itertools.islice(itertools.product(places, repeat=many), 0, None, stride):
            if is_places(TINY, table):
                yield Program(TINY, table)


def random_program(pick, many):
    """A program of TINY with many either places, or None if chance made none that is right."""
    half = pick.randrange(1, many - 1)
    places = []
    for at in range(many - 1):
        later = range(at + 1, half) if at < half else range(at + 1, many)
        kind = pick.choice(("take", "put", "either", "either")) if later else "take"
        if kind == "take" and at < half:
            moves = {"a": pick.randrange(half), "end": pick.randrange(half, many)}
            places.append(("take", "x", {step: to for step, to in moves.items() if pick.random() < 0.8}))
        elif kind == "put" or kind == "take":
            places.append(("put", "z", "a", pick.choice(later)))
        else:
            places.append(("either", tuple(pick.choice(later) for _ in range(pick.randrange(3) + 1))))
    places.append(("done",))
    return Program(TINY, tuple(places)) if is_places(TINY, tuple(places)) else None


def copied(program, many):
    """The program behind so many exchanges that make new places, all different."""
    for at in range(many):
        found = [exchange for exchange in possible_exchanges(program) if exchange[0] == "copy"]
        program = with_exchange(program, found[at % len(found)])
    return program


class TestExamples(Case):
    def test_examples(self):
        self.same(
            [len(DOUBLE), alike_places(DOUBLE), merged(DOUBLE) == COPY, place_difference(COPY, 0, 1)],
            [5, ((0, 4), (1,), (2,), (3,)), True, (("",), ("",))],
        )
        self.same(
            [is_place_difference(COPY, 1, 2, (("",), ("a",))), is_apart_paper(COPY, {}), len(apart_paper(COPY))],
            [True, False, 3],
        )


class TestAlikePlaces(Case):
    def test_slow(self):
        for program in SLOW:
            self.same(alike_places(program), slow_merging.classes(program))

    def test_tiny_programs(self):
        found = set()
        for program in tiny_programs():
            expected = slow_merging.classes(program)
            self.same(alike_places(program), expected)
            found.add(expected)
        self.assertGreater(len(found), 8)

    def test_random_programs(self):
        pick = random.Random(9)
        done = 0
        for _ in range(6000):
            program = random_program(pick, pick.randrange(4, 10))
            if program is None:
                continue
            try:
                self.same(alike_places(program), slow_merging.classes(program))
            except TooMany:
                continue
            done += 1
            less = merged(program)
            self.same(less.places, slow_merging.merged_places(slim(program)))
            self.assertEqual(merged(less), less)
            self.assertEqual(len(alike_places(less)), len(less))
        self.assertGreater(done, 150)

    def test_other_sources_have_ended(self):
        classes = alike_places(ENDS)
        # Places 1, 2 and 17 have the same tails as places 3 and 4.
        self.assertIn((1, 2, 17), classes)
        self.assertIn((3, 4), classes)
        # Places without tails are alike as well, if the same sources have ended there.
        self.assertIn((5, 6, 16, 18), classes)
        self.assertEqual(ENDS.ended(7), ("y",))
        self.assertEqual(ENDS.ended(8), ("x",))
        self.assertIn((7,), classes)
        self.assertIn((8,), classes)

    def test_the_last_step_counts(self):
        # Places 0 and 1 are parted by a tail with just as many steps as the size, and by no shorter one.
        for many in range(1, 7):
            program = counter(many)
            self.assertEqual(program.size, many + 1)
            self.same(alike_places(program), tuple((at,) for at in range(many + 2)))
            self.same(place_difference(program, 0, 1), (("a" * many,), ()))

    def test_the_same_numbers_by_other_ways(self):
        # Twice to one place is as good as to two alike ones.
        loops = [("take", "x", {"a": at, "end": 8}) for at in (5, 6, 7)]
        takes = [("take", "x", {"a": at, "end": 8}) for at in (3, 4)]
        program = Program(TINY, (("either", (1, 2)), *takes, ("either", (5, 5)), ("either", (6, 7)), *loops, ("done",)))
        self.same(alike_places(program), ((0,), (1, 2), (3, 4), (5, 6, 7), (8,)))
        # Four ways behind a take, or two ways ahead of it and two behind.
        program = Program(
            TINY,
            (
                ("either", (1, 2)), ("take", "x", {"a": 3}), ("take", "x", {"a": 4}), ("take", "x", {"a": 5}),
                ("either", (6, 6)), ("either", (7, 7, 7, 7)), ("take", "x", {"a": 8}), ("take", "x", {"end": 9}),
                ("either", (7, 7)), ("done",),
            ),
        )
        self.same(alike_places(program), ((0,), (1, 2), (3, 4), (5,), (6,), (7,), (8,), (9,)))

    def test_twice_the_ways(self):
        # Equal tails, but not equally often.
        program = Program(
            BARE,
            (
                ("take", "x", {"a": 1, "end": 4}), ("either", (2, 3)), ("either", (0, 0)),
                ("take", "x", {"a": 2, "end": 4}), ("done",),
            ),
        )
        self.same(alike_places(program), slow_merging.classes(program))
        self.assertEqual(len(alike_places(program)), 5)

    def test_eighty_places(self):
        self.assertEqual(alike_places(long_program(80)), tuple((at,) for at in range(80)))
        self.assertEqual(len(HALVES), 80)
        pairs = tuple((at, at + 39) for at in range(1, 40))
        self.assertEqual(alike_places(HALVES), ((0,), *pairs, (79,)))

    def test_limit(self):
        self.same(alike_places(ways_program(20000))[0], (0,))
        self.refused(TooMany, alike_places, ways_program(20001), keeps=("limit", 20000))
        # The runs with just as many steps as the size count, and no longer ones.
        told = []
        for many in range(11, 16):
            chain = [("take", "x", {"a": at + 1}) for at in range(2, many + 1)] + [("take", "x", {"end": many + 2})]
            places = [("take", "x", {"a": 1, "b": 2, "end": many + 2}), ("either", (0, 0)), *chain, ("done",)]
            program = Program(Streams((("x", "ab"),), ()), tuple(places))
            runs = [oracle.all_runs(program.places, ["x"], [], program.size + 1, at) for at in range(len(program))]
            told.append(max(len(found) for found in runs))
            if told[-1] <= 20000:
                self.assertEqual(len(alike_places(program)), len(program))
            else:
                shorter = max(len([steps for steps, _, _ in found if steps < program.size]) for found in runs)
                told.append((shorter, told.pop()))
                self.refused(TooMany, alike_places, program, keeps=("limit", 20000))
        self.assertTrue(any(isinstance(found, tuple) and found[0] <= 20000 < found[1] for found in told), told)
        self.assertLess(told[0], 20000)

    def test_limit_at_another_place(self):
        # Place 0 has few runs with so many steps; another one has more than 20000.
        ways = ways_program(20001)
        shift = {at: at + 2 for at in range(len(ways))}
        moved = []
        for place in ways.places:
            if place[0] == "either":
                moved.append(("either", tuple(shift[to] for to in place[1])))
            else:
                moved.append(("take", "x", {"end": shift[place[2]["end"]]}) if place[0] == "take" else place)
        program = Program(BARE, (("take", "x", {"a": 1}), ("take", "x", {"a": 2}), *moved))
        self.assertEqual(program.size, 3)
        self.refused(TooMany, alike_places, program, keeps=("limit", 20000))
        self.refused(TooMany, apart_paper, program, keeps=("limit", 20000))
        self.refused(TooMany, merged, program, keeps=("limit", 20000))
        self.refused(TooMany, place_difference, program, 0, 1, keeps=("limit", 20000))

    def test_refused(self):
        for value in but():
            if not isinstance(value, Program):
                for call in (alike_places, slim, merged, apart_paper):
                    self.refused(InvalidProgram, call, value)

    def test_unchanged(self):
        for program in (DOUBLE, ENDS, LATE):
            for call in (alike_places, slim, merged):
                given = copy.deepcopy(program.places)
                self.assertEqual(call(program), call(program))
                self.assertEqual(program.places, given)


class TestPlaceDifference(Case):
    def test_slow(self):
        for program in SLOW:
            for one, other in itertools.product(range(len(program)), repeat=2):
                if program.ended(one) != program.ended(other):
                    self.refused(InvalidOperation, place_difference, program, one, other)
                    continue
                expected = slow_merging.unlike(program, one, other)
                if not expected:
                    self.refused(InvalidOperation, place_difference, program, one, other)
                    continue
                found = place_difference(program, one, other)
                self.assertIn(found, [tail for steps, tail in expected if steps == expected[0][0]])
                self.assertIs(is_place_difference(program, one, other, found), True)

    def test_judge(self):
        for program in (COPY, TOSS, SHUFFLE, LOOSE, ENDS, NEST):
            tails = sorted({tail for at in range(len(program)) for tail in oracle.tails(program, at, 4)})
            for one, other in itertools.product(range(len(program)), repeat=2):
                if program.ended(one) != program.ended(other):
                    continue
                unlike = [tail for _, tail in slow_merging.unlike(program, one, other)]
                for tail in tails:
                    numbers = [oracle.tails(program, at, 9).get(tail, 0) for at in (one, other)]
                    own = [word for (name, _), word in zip(program.streams.sources, tail[0])
                           if name in program.ended(one)]
                    expected = not any(own) and numbers[0] != numbers[1]
                    self.assertIs(is_place_difference(program, one, other, tail), expected)
                self.assertTrue(all(is_place_difference(program, one, other, tail) for tail in unlike))

    def test_words_of_any_length(self):
        self.assertIs(is_place_difference(COPY, 0, 1, (("a" * 900,), ("a" * 900,))), True)
        self.assertIs(is_place_difference(COPY, 0, 1, (("a" * 900,), ("a" * 901,))), True)
        self.assertIs(is_place_difference(COPY, 0, 1, (("a" * 900,), ("a" * 902,))), False)
        self.assertIs(is_place_difference(COPY, 1, 2, (("b" * 900,), ("a" + "b" * 900,))), True)

    def test_ended_sources_have_empty_words(self):
        # At places 1 and 17 of ENDS the source x has ended, so that a tail has an empty word of it.
        self.assertEqual([ENDS.ended(1), ENDS.ended(17)], [("x",), ("x",)])
        self.assertIs(is_place_difference(ENDS, 1, 8, (("", ""), ("",))), True)
        self.assertIs(is_place_difference(ENDS, 1, 8, (("a", ""), ("",))), False)
        self.assertIs(is_place_difference(ENDS, 1, 8, (("", "b"), ("",))), False)

    def test_every_value(self):
        for value in anything():
            self.assertIs(is_place_difference(COPY, 0, 1, value), False)
        for value in ((("",), ("",), 1), [("",), ("",)], (("",), [""]), (("", ""), ("",)), (("c",), ("",)), (("",),)):
            self.assertIs(is_place_difference(COPY, 0, 1, value), False)

    def test_refused(self):
        for value in but(0, 1, 2, 3):
            for call, rest in ((place_difference, ()), (is_place_difference, (None,))):
                if not isinstance(value, Program):
                    self.refused(InvalidProgram, call, value, None, None, *rest)
                self.refused(InvalidNumber, call, COPY, value, -1, *rest, keeps=("given", value))
                self.refused(InvalidNumber, call, COPY, 0, value, *rest, keeps=("given", value))
        for call, rest in ((place_difference, ()), (is_place_difference, ((("",), ("",)),))):
            self.refused(InvalidOperation, call, COPY, 0, 3, *rest)
            self.refused(InvalidOperation, call, ENDS, 1, 3, *rest)

    def test_order(self):
        # That other sources have ended comes ahead of too many runs, and these ahead of alike places.
        many = ways_program(20001)
        last = [at for at in range(len(many)) if many[at] == ("done",)][0]
        self.refused(InvalidOperation, place_difference, many, 0, last)
        self.refused(TooMany, place_difference, many, 0, 0, keeps=("limit", 20000))
        self.refused(InvalidOperation, place_difference, COPY, 2, 2)
        self.refused(InvalidOperation, place_difference, DOUBLE, 0, 4)
        # The judge has no limit.
        self.assertIs(is_place_difference(many, 0, 0, (("",), ())), False)
        self.assertIs(is_place_difference(many, 0, 1, (("",), ())), True)

    def test_unchanged(self):
        self.unchanged(place_difference, COPY, 1, 2)
        self.unchanged(is_place_difference, COPY, 1, 2, (("",), ("a",)))


class TestSlim(Case):
    def test_slow(self):
        for program in (*SLOW, EVERY, THREE, SOUND, NOTHING):
            self.same(slim(program).places, slow_merging.slim_places(program))
            self.assertEqual(slim(program).streams, program.streams)

    def test_tiny_programs(self):
        for program in tiny_programs():
            thin = slim(program)
            self.same(thin.places, slow_merging.slim_places(program))
            self.assertTrue(is_right(TINY, thin.places, 80))
            self.assertIs(thin.is_trimmed(), True)
            self.assertEqual(slim(thin), thin)

    def test_chains(self):
        self.same(
            slim(CHAINS).places,
            (
                ("take", "x", {"a": 1, "b": 2, "end": 3}), ("put", "z", "a", 0), ("either", (0, 0)), ("done",),
            ),
        )
        # The same place twice is not one place.
        self.assertEqual(slim(SOUND), SOUND)
        self.assertEqual(slim(WAYS), WAYS.trimmed())
        self.same(slim(LOST).places, (("take", "x", {}),))

    def test_long_chain(self):
        places = [("either", (at + 1,)) for at in range(77)] + [("take", "x", {"a": 0, "b": 78, "end": 79})]
        program = made_program(LINE, (*places, ("either", (40,)), ("done",)))
        self.same(slim(program).places, (("take", "x", {"a": 0, "b": 0, "end": 1}), ("done",)))


class TestMerged(Case):
    def test_slow(self):
        for program in SLOW:
            self.same(merged(program).places, slow_merging.merged_places(slim(program)))

    def test_tiny_programs(self):
        fewer = 0
        for program in tiny_programs():
            less = merged(program)
            fewer += len(less) < len(slim(program))
            self.same(less.places, slow_merging.merged_places(slim(program)))
            self.assertTrue(is_right(TINY, less.places, 80))
            self.assertEqual(merged(less), less)
            self.assertEqual(len(alike_places(less)), len(less))
            self.assertIs(is_alike(less, program), True)
        self.assertGreater(fewer, 3)

    def test_merged(self):
        for program in [*SLOW, copied(COPY, 5), copied(TOSS, 3)]:
            less = merged(program)
            self.assertEqual(merged(less), less)
            self.assertEqual(len(alike_places(less)), len(less))
            try:
                self.assertIs(is_alike(less, program), True)
            except TooMany:
                for content in itertools.islice(program.streams.contents(4), 60):
                    self.same(fillings(less, content), fillings(program, content))

    def test_what_leads_to_places(self):
        # All that leads to alike places leads to the first one of them, and others are left out.
        self.assertEqual(merged(copied(COPY, 4)), COPY)
        self.assertEqual(merged(copied(TOSS, 3)), TOSS.trimmed())
        # LATE is alike to COPY, but no two of its places are.
        self.assertEqual(merged(LATE), LATE.ordered())

    def test_places_of_other_kinds(self):
        # An either place and a put have the same tails with the same numbers, and so has a take without other moves.
        program = Program(
            LINE,
            (
                ("take", "x", {"a": 1, "b": 2, "end": 6}), ("either", (3, 4)), ("either", (4, 3)), ("put", "z", "a", 0),
                ("put", "z", "b", 5), ("either", (0,)), ("done",),
            ),
        )
        self.same(
            merged(program).places,
            (
                ("take", "x", {"a": 1, "b": 1, "end": 2}), ("either", (3, 4)), ("done",), ("put", "z", "a", 0),
                ("put", "z", "b", 0),
            ),
        )

    def test_nothing(self):
        for program in (LOST, NOTHING, Program.nothing(LINE)):
            self.assertEqual(merged(program), Program.nothing(program.streams))

    def test_limit_is_that_of_the_slim_program(self):
        # All runs of the program begin at places that trimming leaves, or there are few.
        self.refused(TooMany, merged, ways_program(20001), keeps=("limit", 20000))
        self.assertEqual(merged(merged(ways_program(20000))), merged(ways_program(20000)))
        # Either places with one place in them have no steps, but begin runs: the slim program has as many.
        self.assertEqual(len(slim(ways_program(20001))), len(slim(slim(ways_program(20001)))))

    def test_eighty_places(self):
        self.assertEqual(merged(long_program(80)), long_program(80))
        self.same(len(merged(loop(80))), 80)
        self.assertEqual(len(merged(HALVES)), 41)


class TestApartPaper(Case):
    def test_right(self):
        for program in SLOW:
            if len(alike_places(program)) < len(program):
                self.refused(InvalidOperation, apart_paper, program)
                continue
            paper = apart_paper(program)
            self.assertEqual(list(paper), sorted(paper))
            self.assertEqual(
                list(paper),
                [pair for pair in itertools.combinations(range(len(program)), 2)
                 if program.ended(pair[0]) == program.ended(pair[1])],
            )
            self.assertTrue(all(is_place_difference(program, *pair, tail) for pair, tail in paper.items()))
            self.assertIs(is_apart_paper(program, paper), True)

    def test_any_tails(self):
        paper = {(0, 1): (("ab",), ("ab",)), (0, 2): (("",), ("b",)), (1, 2): (("b",), ("bb",))}
        self.assertIs(is_apart_paper(COPY, paper), True)
        self.assertIs(is_apart_paper(COPY, {pair: paper[pair] for pair in sorted(paper, reverse=True)}), True)
        self.assertIs(is_apart_paper(COPY, {**paper, (0, 1): (("a" * 500,), ("a" * 501,))}), True)

    def test_nearly_right(self):
        paper = apart_paper(COPY)
        for pair in paper:
            self.assertIs(is_apart_paper(COPY, {key: paper[key] for key in paper if key != pair}), False)
            self.assertIs(is_apart_paper(COPY, {**paper, pair: (("",), ("bb",))}), False)
            self.assertIs(is_apart_paper(COPY, {**paper, pair: list(paper[pair])}), False)
            self.assertIs(is_apart_paper(COPY, {**paper, pair: None}), False)
            turned = {key[::-1] if key == pair else key: tail for key, tail in paper.items()}
            self.assertIs(is_apart_paper(COPY, turned), False)
        for pair in ((0, 3), (0, 0), (1, 0), (3, 3), (0, 4), (1, 2, 3), 0, "a", (-1, 0)):
            self.assertIs(is_apart_paper(COPY, {**paper, pair: (("",), ("",))}), False)

    def test_true_is_not_one(self):
        paper = apart_paper(COPY)
        keys = {(0, 1): (False, True), (0, 2): (False, 2), (1, 2): (True, 2)}
        for pair, other in keys.items():
            self.assertIs(is_apart_paper(COPY, {keys[key] if key == pair else key: paper[key] for key in paper}), False)
        self.assertIs(is_apart_paper(COPY, {keys[key]: paper[key] for key in paper}), False)

    def test_no_pairs(self):
        self.same(apart_paper(NOTHING), {})
        self.assertIs(is_apart_paper(NOTHING, {}), True)
        self.assertIs(is_apart_paper(NOTHING, {(0, 0): (("", ""), ("",))}), False)

    def test_alike(self):
        self.refused(InvalidOperation, apart_paper, DOUBLE)
        paper = {pair: (("",), ("",)) for pair in itertools.combinations((0, 1, 2, 4), 2)}
        self.assertIs(is_apart_paper(DOUBLE, paper), False)

    def test_every_value(self):
        for value in anything():
            self.assertIs(is_apart_paper(COPY, value), False)
        for value in but():
            if not isinstance(value, Program):
                self.refused(InvalidProgram, is_apart_paper, value, {})

    def test_limit(self):
        many = ways_program(20001)
        self.refused(TooMany, apart_paper, many, keeps=("limit", 20000))
        # The judge has no limit, and too many runs come ahead of alike places.
        self.assertIs(is_apart_paper(many, {}), False)

    def test_eighty_places(self):
        paper = apart_paper(long_program(80))
        # The source has not ended at place 0 alone.
        self.assertEqual(len(paper), 79 * 78 // 2)
        self.assertIs(is_apart_paper(long_program(80), paper), True)

    def test_nothing_shared(self):
        paper = apart_paper(COPY)
        spoil(paper)
        self.assertIs(is_apart_paper(COPY, apart_paper(COPY)), True)
        self.unchanged(apart_paper, LATE if len(alike_places(LATE)) == len(LATE) else COPY)
        self.unchanged(is_apart_paper, COPY, apart_paper(COPY))


if __name__ == "__main__":
    unittest.main()
