"""The whole package: programs that are made of one another are alike, and all that follows from this."""

import itertools
import unittest

from fewersteps.algebra.bags import Bag
from fewersteps.base.streams import Streams
from fewersteps.books.program import Program
from fewersteps.books.runs import fillings
from fewersteps.build.pipes import beside, drained, filled, only, pipe
from fewersteps.build.recipes import read_recipe, unrolled
from fewersteps.build.rules import Rule, cases, kept
from fewersteps.change.exchanges import possible_exchanges, with_exchange
from fewersteps.change.merging import merged, slim
from fewersteps.decide.alike import alike_classes, apart, is_alike, is_empty, is_short_paper, short_paper
from fewersteps.decide.relations import expressed, is_relation, rank, relations
from fewersteps.decide.tables import closed_table, is_closed_table
from fewersteps.desk.desk import Desk
from fewersteps.errors import InvalidNumber, InvalidOperation, InvalidProgram, TooMany
from fewersteps.text.texts import read_program, write_program
from fewersteps.use.depends import blind_signs, constant, copies, depends, exchangeable
from tests.cases import Case
from tests.values import COPY, EARLY, LATE, LINE, LOOSE, LOST, NEST, PAIR, SHUFFLE, TOSS, long_program

TINY = Streams((("x", "a"),), (("z", "ab"),))
ONE = Program(TINY, (("take", "x", {"a": 1, "end": 2}), ("put", "z", "a", 0), ("done",)))
ANY = Program(TINY, (("take", "x", {"a": 1, "end": 4}), ("either", (2, 3)), ("put", "z", "a", 0), ("put", "z", "b", 0),
                     ("done",)))
FIRST = Program(TINY, (("put", "z", "b", 1), ("either", (2,)), ("take", "x", {"a": 1, "end": 3}), ("done",)))
EVEN = Rule.counting("ab", "a", 2, 0)
MERGE = "each x ( a : put z a ) each y ( b : put z b )"


def made_of(program):
    """Programs that are made of this one, and alike to it."""
    found = [program.ordered(), program.trimmed(), slim(program), merged(program)]
    found.append(read_program(program.streams, write_program(program)))
    for exchange in itertools.islice(possible_exchanges(program), 6):
        found.append(with_exchange(program, exchange))
    found.append(only(program, tuple(name for name, _ in program.streams.sinks)))
    found.append(filled(drained(program, "extra", "ab"), "extra", "ab"))
    return found


class TestMadeOfOneAnother(Case):
    def test_alike(self):
        for program in (COPY, TOSS, LATE, NEST, LOST, EARLY, SHUFFLE, LOOSE):
            for other in made_of(program):
                self.assertEqual(other.streams, program.streams)
                for content in itertools.islice(program.streams.contents(4), 60):
                    self.same(fillings(other, content), fillings(program, content))
                try:
                    self.assertIs(is_alike(program, other), True)
                except TooMany:
                    continue
                self.same(apart(program, other), None)
                self.assertIs(is_empty(Bag.of(program) - other), True)
                self.same(alike_classes((program, other)), ((0, 1),))

    def test_papers_and_relations(self):
        for program in (COPY, TOSS, NEST, EARLY):
            for other in made_of(program)[:8]:
                if (Bag.of(program) - other).flow > 2000:
                    continue
                paper = short_paper(program, other)
                self.assertEqual(paper[0], "alike")
                self.assertIs(is_short_paper(program, other, paper), True)
                # The numbers are those of the other program, too, with the same bound.
                self.assertIs(is_short_paper(other, program, paper), True)
                self.same(relations((program, other)), ((1, -1),))
                self.same([rank((program, other)), expressed((other,), program)], [1, (1,)])

    def test_closed_tables(self):
        found = 0
        for program in (COPY, LATE, NEST, EARLY):
            for other in made_of(program):
                bag = Bag.of(program) - other
                try:
                    table = closed_table(bag)
                except (InvalidOperation, TooMany):
                    continue
                found += len(table) > 0
                self.assertIs(is_closed_table(bag, table), True)
        self.assertGreater(found, 8)

    def test_what_they_depend_on(self):
        done = 0
        for program in (ONE, ANY, FIRST, COPY):
            told = self.uses(program)
            for other in made_of(program):
                try:
                    self.same(self.uses(other), told)
                    done += 1
                except TooMany:
                    continue
        self.assertGreater(done, 20)

    def uses(self, program):
        """All that is told of what a program depends on."""
        return [
            depends(program, "z", "x"), copies(program), blind_signs(program, "x"), blind_signs(program, "z"),
            exchangeable(program), constant(program, "z"),
        ]

    def test_a_desk_has_one_head_for_all(self):
        desk = Desk(LINE)
        for name, program in zip(("a", "b", "c", "d", "e"), made_of(COPY)):
            desk.enter(name, program)
        desk.enter("f", LATE)
        self.same(set(desk.heads.values()), {"a"})
        self.same(len(desk.relations()), 5)


class TestPlaceByPlace(Case):
    """Programs of more than 24 places, which nobody can write, changed place by place."""

    def test_long_programs(self):
        for many in (25, 41, 80):
            program = long_program(many)
            for at in range(1, many - 1):
                other = program.with_place(at, ("put", "z", "b", at + 1))
                self.same([len(other), constant(other, "z")],
                          [many, constant(program, "z")[:at - 1] + "b" + constant(program, "z")[at:]])
                self.assertIs(is_alike(merged(other), other), True)
                self.assertEqual(other.with_place(at, program[at]), program)

    def test_made_programs(self):
        program = pipe(COPY, "z", LATE.renamed({"x": "v", "z": "w"}), "v")
        self.assertGreater(len(program), 24)
        for at, place in enumerate(program.places):
            self.assertEqual(program.with_place(at, place), program)
            if place[0] == "put":
                sign = "b" if place[2] == "a" else "a"
                other = program.with_place(at, ("put", place[1], sign, place[3]))
                self.assertEqual(other.trimmed(), other)
                self.assertIs(is_alike(other.with_place(at, place), program), True)

    def test_refused(self):
        program = long_program(80)
        for at, value in (
                (1, ("put", "z", "a", 80)), (1, ("put", "z", "a", 1)), (1, ("put", "z", "a", 3)), (1, ("done",)),
                (0, ("take", "x", {"a": 1})), (0, ("take", "x", {"a": 0, "end": 1, "b": 1})), (79, ("take", "x", {})),
                (5, ("either", (6, 5))), (5, ("either", ())), (5, ("put", "z", "c", 6)), (5, None)):
            self.refused(InvalidProgram, program.with_place, at, value)
        self.refused(InvalidNumber, program.with_place, 80, ("done",), keeps=("given", 80))


class TestSums(Case):
    def test_cases(self):
        for program, name in ((COPY, "x"), (COPY, "z"), (FIRST, "z"), (ONE, "z")):
            even, odd = cases(program, name, (EVEN, EVEN.negated()))
            self.assertIs(is_empty(Bag.of(even) + odd - program), True)
            self.assertIs(is_relation((program, even, odd), (1, -1, -1)), True)
            # What keeps a rule twice keeps it once, and nothing keeps it and does not.
            self.assertIs(is_alike(kept(even, name, EVEN), even), True)
            self.assertEqual(merged(kept(even, name, EVEN.negated())), Program.nothing(program.streams))

    def test_rules_of_both_streams(self):
        one = kept(kept(COPY, "x", EVEN), "z", EVEN)
        self.assertIs(is_alike(one, kept(COPY, "z", EVEN)), True)
        both = kept(COPY, "x", EVEN & Rule.counting("ab", "b", 2, 1))
        self.assertIs(is_alike(both, kept(kept(COPY, "x", EVEN), "z", Rule.counting("ab", "b", 2, 1))), True)

    def test_multiples(self):
        # With alike programs in the place of others, sums and multiples are alike.
        for one, other in ((COPY, LATE), (TOSS, merged(TOSS)), (NEST, slim(NEST))):
            self.assertIs(is_alike(3 * Bag.of(one) - TOSS, 3 * Bag.of(other) - TOSS), True)
            self.assertIs(is_alike(Bag.of(one) + other, 2 * Bag.of(one)), True)


class TestBuilt(Case):
    def test_pipes_of_alike_programs(self):
        behind = Program.copying(LINE, "x", "z").renamed({"x": "v", "z": "w"})
        told = ANY.renamed({"x": "x", "z": "w"})
        self.assertIs(is_alike(pipe(ANY, "z", behind, "v"), told), True)
        for other in made_of(ANY)[:7]:
            self.assertIs(is_alike(merged(pipe(other, "z", behind, "v")), told), True)
        for other in made_of(behind)[:7]:
            self.assertIs(is_alike(merged(pipe(ANY, "z", other, "v")), told), True)

    def test_filled_and_drained(self):
        both = beside(COPY, TOSS.renamed({"x": "v", "z": "w"}))
        self.assertIs(is_alike(filled(drained(NEST, "y", "c"), "y", "cc"), NEST), True)
        # With a word for the second source, and without the second sink, each run of the other program is counted.
        self.assertIs(is_alike(Bag.of(only(filled(both, "v", "a"), ("z",))), 3 * Bag.of(COPY)), True)
        self.assertIs(is_alike(only(filled(both, "x", "ab"), ("w",)), TOSS.renamed({"x": "v", "z": "w"})), True)

    def test_recipes(self):
        program = read_recipe(PAIR, MERGE)
        once = read_recipe(PAIR, unrolled(PAIR, MERGE, 0))
        twice = read_recipe(PAIR, unrolled(PAIR, unrolled(PAIR, MERGE, 0), 8))
        for other in (once, twice, merged(once), slim(twice)):
            self.assertIs(is_alike(program, other), True)
        self.assertEqual(merged(once), merged(program))
        self.assertEqual(merged(twice), program)


if __name__ == "__main__":
    unittest.main()
