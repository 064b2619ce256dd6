"""The module flows: solid places, and runs by their numbers of steps."""

import unittest
from fractions import Fraction

from fewersteps.books.flows import MAX_FLOW, fewest_steps, flow, runs_by_steps, short_runs, solid_moves, solid_starts
from fewersteps.books.program import Program
from fewersteps.errors import InvalidNumber, InvalidProgram, TooMany
from tests import oracle
from tests.cases import Case, spoil
from tests.values import BARE, COPY, EARLY, LINE, LOOSE, LOST, NEST, PROGRAMS, SOUND, TOSS, anything, but
from tests.values import long_program, ways_program

# A program of one source with as many runs as there are steps.
COUNT = Program.reading(BARE)


def ways(places, at):
    """All solid places to which either places alone lead from a place, each as often as there are ways."""
    if places[at][0] != "either":
        return [at] if oracle.useful(places)[at] else []
    return [to for behind in places[at][1] for to in ways(places, behind)]


def counted(found):
    """A dict from the members of a list, ascending, to how many there are."""
    return {member: found.count(member) for member in sorted(set(found))}


def recurrence(program):
    """Integers that give each number of runs by those ahead of it: those of the characteristic polynomial."""
    moves = solid_moves(program)
    kept = [at for at in moves if moves[at]]
    table = [[sum(nexts.get(to, 0) for _, _, nexts in moves[at]) for to in kept] for at in kept]
    power = [[Fraction(int(row == column)) for column in kept] for row in kept]
    found = []
    for index in range(1, len(kept) + 1):
        power = [[sum(a * b for a, b in zip(row, column)) for column in zip(*power)] for row in table]
        found.append(-sum(power[at][at] for at in range(len(kept))) / index)
        for at in range(len(kept)):
            power[at][at] += found[-1]
    return [int(-value) for value in found] + [0]


class TestSolid(Case):
    def test_examples(self):
        self.same(
            [solid_starts(TOSS), solid_moves(TOSS)[0]],
            [{0: 1}, (("x", "a", {2: 2, 3: 1}), ("x", "b", {2: 2, 3: 1}), ("x", "end", {4: 1}))],
        )

    def test_nested(self):
        # Place 1 leads to 2 twice and to 3; place 0 leads to 1 twice, to 2, and to what is of no use.
        self.same(solid_starts(NEST), {2: 5, 3: 2})
        self.same(
            solid_moves(NEST),
            {2: (("z", "a", {3: 1}),), 3: (("x", "a", {2: 2, 3: 1}), ("x", "end", {4: 1})), 4: ()},
        )

    def test_no_use(self):
        for program in (LOST, Program.nothing(LINE)):
            self.same([solid_starts(program), solid_moves(program)], [{}, {}])
        self.same(solid_starts(LOOSE), {1: 1, 3: 1})
        self.same(
            solid_moves(LOOSE),
            {
                1: (("y", "b", {1: 1}), ("y", "end", {6: 1})), 2: (), 3: (("z", "b", {1: 1}),),
                6: (("x", "a", {6: 1}), ("x", "end", {2: 1})),
            },
        )

    def test_plain_search(self):
        for program in PROGRAMS:
            places = program.places
            self.same(solid_starts(program), counted(ways(places, 0)))
            expected = {}
            for at, useful in enumerate(oracle.useful(places)):
                if not useful or places[at][0] == "either":
                    continue
                steps = places[at][2].items() if places[at][0] == "take" else [places[at][2:]]
                steps = steps if places[at][0] != "done" else []
                rows = [(places[at][1], sign, counted(ways(places, to))) for sign, to in steps]
                expected[at] = tuple(row for row in rows if row[2])
            self.same(solid_moves(program), expected)

    def test_nothing_shared(self):
        for program in PROGRAMS:
            before = [solid_starts(program), solid_moves(program)]
            found = solid_moves(program)
            for steps in found.values():
                spoil(steps)
            spoil([solid_starts(program), found])
            self.same([solid_starts(program), solid_moves(program)], before)

    def test_entries_share_nothing(self):
        steps = solid_moves(TOSS)[0]
        steps[0][2].clear()
        self.assertEqual(steps[1][2], {2: 2, 3: 1})


class TestCounts(Case):
    def test_examples(self):
        self.same(
            [runs_by_steps(COPY, 6), flow(COPY, 6), short_runs(COPY, 4), fewest_steps(COPY)],
            [(0, 1, 0, 2, 0, 4), 7, {(("",), ("",)): 1, (("a",), ("a",)): 1, (("b",), ("b",)): 1}, 1],
        )

    def test_plain_search(self):
        for program in PROGRAMS:
            for many in (0, 1, 2, 3, 5, 7):
                found = oracle.runs_of(program, many)
                lengths = [row[0] for row in found]
                self.same(runs_by_steps(program, many), tuple(lengths.count(step) for step in range(many)))
                self.assertEqual(flow(program, many), len(found))
                self.same(short_runs(program, many), oracle.table(found))
            self.assertEqual(fewest_steps(program), min((row[0] for row in oracle.runs_of(program, 8)), default=None))

    def test_trimmed_and_ordered(self):
        for program in PROGRAMS:
            for other in (program.trimmed(), program.ordered()):
                self.same(short_runs(other, 7), short_runs(program, 7))
                self.same(runs_by_steps(other, 50), runs_by_steps(program, 50))

    def test_fewest(self):
        self.assertIsNone(fewest_steps(LOST))
        self.assertEqual(fewest_steps(EARLY), 3)
        self.assertEqual(fewest_steps(long_program(80)), 79)
        self.assertEqual(fewest_steps(NEST), 1)

    def test_recurrence(self):
        for program in PROGRAMS:
            factors = recurrence(program)
            self.assertLessEqual(len(factors), program.size + 1)
            factors = factors + [0] * (program.size + 1 - len(factors))
            counts = runs_by_steps(program, 60)
            for step in range(program.size + 1, 60):
                terms = [factor * counts[step - 1 - at] for at, factor in enumerate(factors)]
                self.assertEqual(sum(terms), counts[step], program.places)

    def test_eighty_places(self):
        program = long_program(80)
        self.assertEqual([flow(program, 79), flow(program, 80), flow(program, 200)], [0, 1, 1])
        self.same(short_runs(program, 80), {(("",), ("ba" * 39,)): 1})

    def test_great_numbers(self):
        self.assertEqual(runs_by_steps(SOUND, 200)[-1], 3 ** 198)
        self.assertEqual(flow(SOUND, 200), (3 ** 199 - 1) // 2)

    def test_many_of_two_hundred(self):
        self.assertEqual([len(runs_by_steps(COUNT, 200)), flow(COUNT, 200)], [200, 199])
        self.assertEqual(len(short_runs(COUNT, 200)), 199)
        self.assertEqual(max(short_runs(COUNT, 200)), (("a" * 198,), ()))

    def test_nothing_shared(self):
        found = short_runs(COPY, 4)
        spoil(found)
        self.assertEqual(len(short_runs(COPY, 4)), 3)


class TestLimit(Case):
    """Runs of programs whose flow is 20000, and one more."""

    def test_limit(self):
        self.assertEqual(MAX_FLOW, 20000)
        program = ways_program(20000)
        self.assertEqual(flow(program, 2), 20000)
        self.same(short_runs(program, 2), {(("",), ()): 20000})
        more = ways_program(20001)
        self.assertEqual(flow(more, 2), 20001)
        self.refused(TooMany, short_runs, more, 2, keeps=("limit", 20000))
        self.same([short_runs(more, 1), runs_by_steps(more, 2)], [{}, (0, 20001)])

    def test_by_steps(self):
        steps = [flow(TOSS, many) for many in range(16)]
        for many, runs in enumerate(steps):
            if runs > 20000:
                self.refused(TooMany, short_runs, TOSS, many, keeps=("limit", 20000))
            else:
                self.assertEqual(sum(short_runs(TOSS, many).values()), runs)
        self.assertTrue(steps[13] <= 20000 < steps[15])


class TestRefused(Case):
    def test_no_program(self):
        for value in anything():
            if not isinstance(value, Program):
                for call in (solid_starts, solid_moves, fewest_steps):
                    self.refused(InvalidProgram, call, value)
                for call in (runs_by_steps, flow, short_runs):
                    self.refused(InvalidProgram, call, value, 3)
                    self.refused(InvalidProgram, call, value, -1)

    def test_many(self):
        for call in (runs_by_steps, flow, short_runs):
            for value in but(0, 1, 2, 3, 24, 25, 40, 41, 80, 81):
                self.refused(InvalidNumber, call, EARLY, value, keeps=("given", value))
            self.refused(InvalidNumber, call, SOUND, 201, keeps=("given", 201))
            self.refused(InvalidNumber, call, SOUND, -1, keeps=("given", -1))
            call(COUNT, 200)
            call(COUNT, 0)

    def test_unchanged(self):
        for program in PROGRAMS:
            for call in (solid_starts, solid_moves, fewest_steps):
                self.unchanged(call, program)
            for call in (runs_by_steps, flow, short_runs):
                self.unchanged(call, program, 6)


if __name__ == "__main__":
    unittest.main()
