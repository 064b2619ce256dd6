"""The module rules: rules for words, programs with the runs that keep a rule, and cases."""

import copy
import itertools
import random
import unittest

from fewersteps.algebra.bags import Bag
from fewersteps.books.places import is_right
from fewersteps.books.program import Program
from fewersteps.books.runs import fillings
from fewersteps.build.rules import MAX_STATES, Rule, cases, first_unparted, kept
from fewersteps.decide.alike import is_alike
from fewersteps.decide.relations import is_relation
from fewersteps.errors import InvalidNumber, InvalidOperation, InvalidProgram, InvalidRule, InvalidWord, TooMany
from fewersteps.errors import UnknownName
from tests import oracle, slow_pipes
from tests.cases import Case, spoil
from tests.values import BARE, COPY, EARLY, EVERY, LATE, LINE, LOOSE, LOST, NEST, SHUFFLE, SOUND, THREE, TOSS
from tests.values import WIDE, anything, but, deep, long_program

EVEN = Rule.counting("ab", "a", 2, 0)
ODD = Rule.counting("ab", "a", 2, 1)
# A move is missing, no state is good, and states that no move reaches.
GAP = Rule("ab", (({"a": 1}, False), ({"a": 0, "b": 1}, True)))
NONE = Rule("ab", (({"a": 0, "b": 0}, False),))
ALL = Rule("ab", (({"b": 0, "a": 0}, True),))
EMPTY = Rule("ab", (({}, True),))
ALL_A = Rule("a", (({"a": 0}, True),))
FAR = Rule("ab", (({"a": 2}, True), ({"a": 1}, True), ({"b": 0, "a": 2}, False), ({}, False)))
RULES = (EVEN, ODD, GAP, NONE, ALL, EMPTY, FAR)


def words(signs, most):
    """All words with at most so many signs, by lengths, then ascending."""
    for many in range(most + 1):
        yield from ("".join(row) for row in itertools.product(signs, repeat=many))


def keeps(rule, word):
    """Whether the word keeps the rule, by its moves."""
    at = 0
    for sign in word:
        at = rule.states[at][0].get(sign) if at is not None else None
    return at is not None and rule.states[at][1]


def random_rule(pick, signs, most):
    """A rule with at most so many states."""
    many = pick.randrange(most) + 1
    states = []
    for _ in range(many):
        moves = {sign: pick.randrange(many) for sign in signs if pick.random() < 0.7}
        states.append((moves, pick.random() < 0.5))
    return Rule(signs, tuple(states))


def in_order(rule):
    """The states that are reached, in the order of a search by breadth, signs ascending."""
    order = [0]
    for at in order:
        moves = rule.states[at][0]
        order.extend(dict.fromkeys(moves[sign] for sign in rule.signs if sign in moves and moves[sign] not in order))
    return order


class TestExamples(Case):
    def test_examples(self):
        self.same(
            [
                EVEN("aba"), "b" in EVEN, EVEN.negated() == Rule.counting("ab", "a", 2, 1), str(EVEN),
                len(Rule.of_words("ab", ("a", "ab"))),
            ],
            [True, True, True, "rule of 2 states for ab", 3],
        )
        self.same(
            [
                first_unparted((EVEN, EVEN.negated())), first_unparted((EVEN, Rule.counting("ab", "b", 2, 1))),
                len(kept(COPY, "z", EVEN)),
            ],
            [None, "a", 7],
        )
        self.assertEqual(MAX_STATES, 6)


class TestRule(Case):
    def test_moves(self):
        pick = random.Random(5)
        for rule in [*RULES, *(random_rule(pick, "abd", 6) for _ in range(40))]:
            for word in words(rule.signs, 5):
                self.assertIs(rule(word), keeps(rule, word))
                self.assertIs(word in rule, keeps(rule, word))

    def test_kept(self):
        self.same([GAP(word) for word in ("", "a", "ab", "aa", "b", "aab", "aaa")],
                  [False, True, True, False, False, False, True])
        self.assertFalse(any(word in NONE for word in words("ab", 5)))
        self.assertTrue(all(word in ALL for word in words("ab", 5)))
        self.same([EMPTY(""), EMPTY("a")], [True, False])

    def test_long_words(self):
        self.same([EVEN("ab" * 4500), EVEN("ab" * 4499), "ab" * 4500 in EVEN], [True, False, True])

    def test_no_words(self):
        for value in anything():
            if not isinstance(value, str) or set(value) - set("ab"):
                self.refused(InvalidWord, EVEN, value)
                self.assertIs(value in ALL, False)
        for value in ("c", "A", "abc", " ", "a\n", b"a", ("a",), ["a"]):
            self.refused(InvalidWord, EVEN, value)
            self.assertIs(value in ALL, False)

    def test_properties(self):
        states = ({"b": 1, "a": 0}, True), ({}, False)
        rule = Rule("ab", states)
        self.same([rule.signs, rule.states], ["ab", (({"a": 0, "b": 1}, True), ({}, False))])
        self.same([len(rule), str(rule)], [2, "rule of 2 states for ab"])
        self.assertEqual(rule, Rule("ab", (({"a": 0, "b": 1}, True), ({}, False))))
        self.same([len(NONE), str(Rule("abcz", (({}, True),)))], [1, "rule of 1 states for abcz"])

    def test_equal(self):
        for one, other in itertools.product((*RULES, *but()), repeat=2):
            if isinstance(one, Rule):
                expected = isinstance(other, Rule) and (one.signs, one.states) == (other.signs, other.states)
                self.assertIs(one == other, expected)
                self.assertIs(one != other, not expected)
        self.assertNotEqual(EMPTY, Rule("abc", (({}, True),)))
        self.assertNotEqual(EMPTY, NONE)
        # The same words, but other states.
        self.assertNotEqual(ALL, Rule("ab", (({"a": 1, "b": 1}, True), ({"a": 0, "b": 0}, True))))

    def test_refused(self):
        for value in but():
            if not isinstance(value, str) or value not in ("a", "b", "ab", "x", "z"):
                self.refused(InvalidRule, Rule, value, (({}, True),))
            self.refused(InvalidRule, Rule, "ab", value)
            self.refused(InvalidRule, Rule, "ab", (value,))
            if value not in ({}, {"a": 0}):
                self.refused(InvalidRule, Rule, "ab", ((value, True),))
            if not isinstance(value, bool):
                self.refused(InvalidRule, Rule, "ab", (({}, value),))
            if type(value) is not int or not 0 <= value < 1:
                self.refused(InvalidRule, Rule, "ab", (({"a": value}, True),))
        for signs in ("ba", "aa", "abcde", "", "A", "a b"):
            self.refused(InvalidRule, Rule, signs, (({}, True),))
        state = ({}, True)
        for states in ((), (state,) * 7, [state], (({"c": 0}, True),), (({"end": 0}, True),), (({"": 0}, True),),
                       (({"ab": 0}, True),), (({"a": 1}, True),), (({"a": -1}, True),), (({"a": False}, True),),
                       (({}, 1),), (({}, None),), ({},), (({}, True, 1),), (([], True),), ([{}, True],)):
            self.refused(InvalidRule, Rule, "ab", states)
        self.assertEqual(len(Rule("ab", (({"b": 5}, True),) + (state,) * 5)), 6)

    def test_nothing_shared(self):
        states = (({"a": 0}, True), ({"b": 1}, False))
        rule = Rule("ab", states)
        spoil(states)
        spoil(rule.states)
        self.same(rule.states, (({"a": 0}, True), ({"b": 1}, False)))

    def test_not_iterated(self):
        self.assertRaises(TypeError, iter, EVEN)


class TestOfWords(Case):
    def test_states(self):
        self.same(
            Rule.of_words("ab", ("ab", "b", "ab")).states,
            (({"a": 1, "b": 2}, False), ({"b": 3}, False), ({}, True), ({}, True)),
        )
        self.same(Rule.of_words("ab", ()).states, (({}, False),))
        self.same(Rule.of_words("ab", ("",)).states, (({}, True),))
        self.same(
            Rule.of_words("ab", ("", "ba", "a", "bb")).states,
            (({"a": 1, "b": 2}, True), ({}, True), ({"a": 3, "b": 4}, False), ({}, True), ({}, True)),
        )
        self.same(Rule.of_words("ab", ("b", "a")).states, Rule.of_words("ab", ("a", "b", "a")).states)

    def test_words(self):
        pick = random.Random(8)
        everything = list(words("abc", 3))
        done = 0
        for _ in range(400):
            chosen = tuple(pick.choice(everything) for _ in range(pick.randrange(5)))
            begun = {word[:at] for word in chosen for at in range(len(word) + 1)} | {""}
            if len(begun) > 6:
                self.refused(TooMany, Rule.of_words, "abc", chosen, keeps=("limit", 6))
                continue
            done += 1
            rule = Rule.of_words("abc", chosen)
            self.assertEqual(len(rule), len(begun))
            order = sorted(begun, key=lambda word: (len(word), word))
            self.same([good for _, good in rule.states], [word in chosen for word in order])
            for word in words("abc", 4):
                self.assertIs(rule(word), word in chosen)
        self.assertGreater(done, 50)

    def test_six_and_seven(self):
        self.assertEqual(len(Rule.of_words("ab", ("aaaaa",))), 6)
        for chosen in (("aaaaaa",), ("aaaaa", "b"), ("a" * 9000,), ("aab", "bb", "aba"), ("b", "ab", "ba", "bb", "aa")):
            self.refused(TooMany, Rule.of_words, "ab", chosen, keeps=("limit", 6))
        self.assertEqual(len(Rule.of_words("ab", ("aab", "bb") * 400)), 6)

    def test_refused(self):
        for value in but("a", "b", "ab", "x", "z"):
            self.refused(InvalidRule, Rule.of_words, value, None)
        for value in but():
            if value not in ((), ("a",), ("",)):
                self.refused(InvalidWord, Rule.of_words, "ab", value)
            if not isinstance(value, str) or set(value) - set("ab"):
                self.refused(InvalidWord, Rule.of_words, "ab", ("a", value))
        # That something is no word comes ahead of too many words.
        self.refused(InvalidWord, Rule.of_words, "ab", ("aaaaaaa", "c"))


class TestCounting(Case):
    def test_counting(self):
        for signs in ("a", "ab", "acz"):
            parts = ["".join(part) for many in range(len(signs) + 1) for part in itertools.combinations(signs, many)]
            for counted, by in itertools.product(parts, range(1, 7)):
                for rest in range(by):
                    rule = Rule.counting(signs, counted, by, rest)
                    self.same([len(rule), rule.signs], [by, signs])
                    for at, (moves, good) in enumerate(rule.states):
                        self.same(moves, {sign: (at + 1) % by if sign in counted else at for sign in signs})
                        self.assertIs(good, at == rest)
                    for word in words(signs, 4):
                        self.assertIs(rule(word), sum(word.count(sign) for sign in counted) % by == rest)

    def test_no_counted_signs(self):
        self.assertTrue(all(word in Rule.counting("ab", "", 3, 0) for word in words("ab", 4)))
        self.assertFalse(any(word in Rule.counting("ab", "", 3, 1) for word in words("ab", 4)))

    def test_refused(self):
        for value in but("a", "b", "ab", "x", "z"):
            self.refused(InvalidRule, Rule.counting, value, None, None, None)
        for value in but("a", "b", "ab", ""):
            self.refused(InvalidWord, Rule.counting, "ab", value, None, None)
        for value in ("ba", "aa", "abc", "c", "aab"):
            self.refused(InvalidWord, Rule.counting, "ab", value, 0, 0)
        for value in but(1, 2, 3):
            self.refused(InvalidNumber, Rule.counting, "ab", "a", value, None, keeps=("given", value))
        for value in but(0, 1, 2):
            self.refused(InvalidNumber, Rule.counting, "ab", "a", 3, value, keeps=("given", value))
        for by in range(1, 7):
            self.refused(InvalidNumber, Rule.counting, "ab", "a", by, by, keeps=("given", by))
        self.refused(InvalidNumber, Rule.counting, "ab", "a", 7, 0, keeps=("given", 7))
        self.refused(InvalidNumber, Rule.counting, "ab", "a", True, 0, keeps=("given", True))


class TestOperators(Case):
    def rules(self):
        pick = random.Random(17)
        return [*RULES, *(random_rule(pick, "ab", 3) for _ in range(12))]

    def test_both(self):
        done = 0
        for one, other in itertools.product(self.rules(), repeat=2):
            try:
                both = one & other
            except TooMany:
                continue
            done += 1
            for word in words("ab", 5):
                self.assertIs(both(word), keeps(one, word) and keeps(other, word))
            # The states are pairs in the order of a search.
            order = [(0, 0)]
            for at, to in order:
                moves = [rule.states[here][0] for rule, here in ((one, at), (other, to))]
                pairs = [tuple(move[sign] for move in moves) for sign in "ab" if all(sign in move for move in moves)]
                order.extend(dict.fromkeys(pair for pair in pairs if pair not in order))
            expected = []
            for at, to in order:
                moves = [rule.states[here][0] for rule, here in ((one, at), (other, to))]
                leads = {sign: order.index((moves[0][sign], moves[1][sign])) for sign in "ab"
                         if sign in moves[0] and sign in moves[1]}
                expected.append((leads, one.states[at][1] and other.states[to][1]))
            self.same(both.states, tuple(expected))
        self.assertGreater(done, 200)

    def test_negated(self):
        for rule in self.rules():
            negated = rule.negated()
            for word in words("ab", 6):
                self.assertIs(negated(word), not keeps(rule, word))
            self.assertEqual(in_order(negated), list(range(len(negated))))
            self.assertTrue(all(list(moves) == ["a", "b"] for moves, good in negated.states))
            reached = in_order(rule)
            lacks = any(len(rule.states[at][0]) < 2 for at in reached)
            self.assertEqual(len(negated), len(reached) + lacks)
        self.same(GAP.negated().states, (({"a": 1, "b": 2}, True), ({"a": 0, "b": 1}, False), ({"a": 2, "b": 2}, True)))
        self.same(EMPTY.negated().states, (({"a": 1, "b": 1}, False), ({"a": 1, "b": 1}, True)))
        # States that no move reaches are left out; they lack moves, too.
        self.same(
            FAR.negated().states,
            (({"a": 1, "b": 2}, False), ({"a": 1, "b": 0}, True), ({"a": 2, "b": 2}, True)),
        )
        self.same(Rule("ab", (({"a": 0, "b": 0}, True), ({}, False))).negated().states, (({"a": 0, "b": 0}, False),))

    def test_either(self):
        done = 0
        for one, other in itertools.product(self.rules(), repeat=2):
            try:
                either = one | other
            except TooMany:
                self.assertRaises(TooMany, lambda: (one.negated() & other.negated()).negated())
                continue
            done += 1
            for word in words("ab", 5):
                self.assertIs(either(word), keeps(one, word) or keeps(other, word))
            self.assertEqual(either, (one.negated() & other.negated()).negated())
        self.assertGreater(done, 150)

    def test_six_and_seven(self):
        two, three, four = (Rule.counting("ab", "a", many, 0) for many in (2, 3, 4))
        self.assertEqual(len(two & Rule.counting("ab", "b", 3, 0)), 6)
        self.assertEqual(len(two | Rule.counting("ab", "b", 3, 0)), 6)
        self.assertEqual(len(two & three), 6)
        for call in (lambda: two & Rule.counting("ab", "b", 4, 0), lambda: three & four, lambda: three | four):
            self.refused(TooMany, call, keeps=("limit", 6))
        # A rule of six states that lacks a move has seven on the way.
        six = Rule("ab", tuple(({"a": min(at + 1, 5)}, at == 5) for at in range(6)))
        self.refused(TooMany, six.negated, keeps=("limit", 6))
        self.refused(TooMany, lambda: six | ALL, keeps=("limit", 6))
        self.refused(TooMany, lambda: ALL | six, keeps=("limit", 6))
        self.assertEqual(six & ALL, six)
        full = Rule("ab", tuple(({"a": min(at + 1, 5), "b": at}, at == 5) for at in range(6)))
        self.assertEqual(len(full.negated()), 6)
        self.assertEqual(full.negated().negated(), full)
        self.assertEqual(full | NONE, full)

    def test_refused(self):
        others = [value for value in but()] + [Rule("abc", (({}, True),)), Rule("a", (({}, True),))]
        six = Rule("ab", tuple(({"a": min(at + 1, 5)}, at == 5) for at in range(6)))
        for value in others:
            for rule in (EVEN, six):
                self.refused(InvalidRule, lambda: rule & value)
                self.refused(InvalidRule, lambda: rule | value)

    def test_unchanged(self):
        before = [copy.deepcopy(rule.states) for rule in RULES]
        self.assertEqual([EVEN & GAP, EVEN | GAP, GAP.negated()], [EVEN & GAP, EVEN | GAP, GAP.negated()])
        self.same([rule.states for rule in RULES], before)


def numbers(program, most):
    """A dict from the contents with at most so many signs to the numbers of their fillings."""
    return {content: oracle.fillings(program, content) for content in program.streams.contents(most)}


class TestKept(Case):
    def check(self, program, name, rule, most=3):
        streams = program.streams
        found = kept(program, name, rule)
        self.assertEqual(found.streams, streams)
        self.same(found.places, slow_pipes.kept(program, name, rule, streams))
        self.assertIs(found.is_trimmed(), True)
        self.assertTrue(is_right(streams, found.places, 80))
        index = streams.index_of(name)
        for content, expected in numbers(program, most).items():
            if streams.is_source(name):
                expected = expected if keeps(rule, content[index]) else {}
            else:
                expected = {filling: runs for filling, runs in expected.items() if keeps(rule, filling[index])}
            self.same(fillings(found, content), expected)

    def test_sources_and_sinks(self):
        for program in (COPY, TOSS, LATE, NEST, EARLY, SHUFFLE, LOOSE, LOST):
            for name in program.streams.names:
                signs = program.streams.signs_of(name)
                pick = random.Random(len(program) + len(name))
                for rule in [random_rule(pick, signs, 4) for _ in range(6)] + [Rule.counting(signs, signs[0], 3, 1)]:
                    self.check(program, name, rule)

    def test_three_sources(self):
        pick = random.Random(3)
        for program in (EVERY, THREE):
            for name in WIDE.names:
                self.check(program, name, random_rule(pick, WIDE.signs_of(name), 3), 2)

    def test_states(self):
        for rule in RULES:
            self.check(COPY, "x", rule, 4)
            self.check(COPY, "z", rule, 4)
        self.assertEqual(kept(COPY, "x", ALL), COPY)
        self.assertEqual(kept(LOOSE, "z", Rule("ab", (({"a": 0, "b": 0}, True),))), LOOSE.trimmed())
        for rule in (NONE, Rule("ab", (({"a": 0}, False), ({}, True)))):
            self.assertEqual(kept(COPY, "x", rule), Program.nothing(LINE))
            self.assertEqual(kept(COPY, "z", rule), Program.nothing(LINE))

    def test_places(self):
        self.same(
            kept(COPY, "x", GAP).places,
            (
                ("take", "x", {"a": 1}), ("put", "z", "a", 2), ("take", "x", {"a": 3, "b": 4, "end": 5}),
                ("put", "z", "a", 0), ("put", "z", "b", 2), ("done",),
            ),
        )
        self.same(
            kept(COPY, "z", EMPTY).places, (("take", "x", {"end": 1}), ("done",)),
        )
        # The end of the source is met in two good states: each has a done place of its own.
        self.assertEqual(len(kept(Program.reading(BARE), "x", Rule("a", (({"a": 1}, True), ({"a": 0}, True))))), 4)

    def test_refused(self):
        for value in but():
            if not isinstance(value, Program):
                self.refused(InvalidProgram, kept, value, None, None)
            if value not in ("x", "z"):
                self.refused(UnknownName, kept, COPY, value, None, keeps=("wanted", value))
            self.refused(InvalidRule, kept, COPY, "x", value)
        self.refused(InvalidRule, kept, COPY, "x", Rule("abc", (({}, True),)))
        self.refused(InvalidRule, kept, EARLY, "x", EVEN)
        self.assertEqual(kept(EARLY, "z", ALL), EARLY)

    def test_eighty_places(self):
        one = Rule("ab", (({"a": 0, "b": 0}, True),))
        two = Rule("ab", (({"a": 1, "b": 0}, True), ({"a": 0, "b": 1}, True)))
        self.assertEqual(kept(long_program(80), "z", one), long_program(80))
        self.assertEqual(len(kept(long_program(40), "z", two)), 40)
        self.refused(TooMany, kept, long_program(41), "z", two, keeps=("limit", 80))
        self.refused(TooMany, kept, long_program(80), "x", EVEN, keeps=("limit", 80))
        # What is greater counts, not how many places there are behind.
        self.refused(TooMany, kept, long_program(80), "x", Rule("ab", (({}, False), ({}, False))), keeps=("limit", 80))
        self.refused(InvalidRule, kept, long_program(80), "z", Rule("a", (({}, True), ({}, True))))

    def test_unchanged(self):
        places, states = copy.deepcopy(TOSS.places), copy.deepcopy(GAP.states)
        self.assertEqual(kept(TOSS, "z", GAP), kept(TOSS, "z", GAP))
        self.same([TOSS.places, GAP.states], [places, states])


class TestUnparted(Case):
    def test_slow(self):
        pick = random.Random(2)
        found = set()
        for _ in range(300):
            rules = tuple(random_rule(pick, "ab", 3) for _ in range(pick.randrange(4) + 1))
            expected = [word for word in words("ab", 7) if sum(keeps(rule, word) for rule in rules) != 1]
            told = first_unparted(rules)
            if told is not None and len(told) <= 7 or expected:
                self.same(told, expected[0])
            found.add(told)
        self.assertGreater(len(found), 6)

    def test_none(self):
        self.same(first_unparted((ALL,)), None)
        self.same(first_unparted((EMPTY, EMPTY.negated())), None)
        thirds = tuple(Rule.counting("ab", "ab", 3, rest) for rest in range(3))
        self.same(first_unparted(thirds), None)
        self.same(first_unparted(thirds + (NONE,)), None)
        self.same(first_unparted(thirds[:2]), "aa")
        self.same(first_unparted(thirds + (ALL,)), "")
        self.same(first_unparted(thirds + (Rule.of_words("ab", ("bab",)),)), "bab")

    def test_by_lengths_then_ascending(self):
        self.same(first_unparted((Rule.of_words("ab", ("b", "aa")).negated(),)), "b")
        self.same(first_unparted((Rule.of_words("ab", ("bb", "ba")).negated(),)), "ba")
        self.same(first_unparted((EVEN, EVEN)), "")
        # Words that come later are longer.
        for by in range(2, 7):
            last = Rule.counting("a", "a", by, by - 1)
            self.same(first_unparted((ALL_A, last)), "a" * (by - 1))
            self.same(first_unparted((last.negated(), last)), None)
        five, six = (Rule.counting("a", "a", by, by - 1).negated() for by in (5, 6))
        self.same(first_unparted((five, five.negated(), six.negated())), "a" * 5)
        self.same(first_unparted((five & ALL_A, six.negated(), five.negated())), "a" * 5)

    def test_refused(self):
        for value in but():
            self.refused(InvalidRule, first_unparted, value)
            self.refused(InvalidRule, first_unparted, (EVEN, value))
            self.refused(InvalidRule, first_unparted, (value, EVEN))
        for value in ((), (EVEN,) * 5, [EVEN], {0: EVEN}, EVEN, (EVEN, Rule("abc", (({}, True),))), ((EVEN,),)):
            self.refused(InvalidRule, first_unparted, value)
            self.refused(InvalidRule, cases, COPY, "x", value)


class TestCases(Case):
    def test_add_up(self):
        thirds = tuple(Rule.counting("ab", "ab", 3, rest) for rest in range(3))
        for program in (COPY, TOSS, NEST, LOST):
            for name in ("x", "z"):
                for rules in ((EVEN, ODD), thirds, (ALL,), (GAP, GAP.negated()), (NONE, ALL, NONE, NONE)):
                    found = cases(program, name, rules)
                    self.assertEqual(found, tuple(kept(program, name, rule) for rule in rules))
                    bag = Bag(LINE, tuple((case, 1) for case in found))
                    try:
                        self.assertIs(is_alike(bag, program), True)
                    except TooMany:
                        self.assertGreater(bag.flow, 1000)
        found = cases(COPY, "x", (EVEN, ODD))
        self.assertIs(is_relation((COPY, *found), (1, -1, -1)), True)

    def test_unparted(self):
        for rules in ((EVEN, EVEN), (EVEN,), (EMPTY, NONE), (ALL, ALL)):
            self.refused(InvalidOperation, cases, COPY, "x", rules)
        # An unparted word comes ahead of too many places.
        self.refused(InvalidOperation, cases, long_program(80), "x", (EVEN, EVEN))
        self.refused(TooMany, cases, long_program(80), "x", (EVEN, ODD), keeps=("limit", 80))
        self.refused(TooMany, cases, long_program(41), "x", (ALL, NONE, EVEN & NONE), keeps=("limit", 80))

    def test_refused(self):
        for value in but():
            if not isinstance(value, Program):
                self.refused(InvalidProgram, cases, value, None, None)
            if value not in ("x", "z"):
                self.refused(UnknownName, cases, COPY, value, None, keeps=("wanted", value))
            self.refused(InvalidRule, cases, COPY, "x", value)
            self.refused(InvalidRule, cases, COPY, "x", (EVEN, value))
        # Rules for other signs than those of the stream come ahead of an unparted word.
        self.refused(InvalidRule, cases, COPY, "x", (ALL_A, ALL_A))
        self.refused(InvalidRule, cases, EARLY, "x", (EVEN, ODD))
        self.refused(InvalidRule, cases, COPY, "x", (deep(1), EVEN))
        self.assertEqual(cases(SOUND, "x", (ALL_A,)), (SOUND.trimmed(),))


if __name__ == "__main__":
    unittest.main()
