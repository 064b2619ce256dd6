"""The module tables: sums, how they are led and split, and closed tables."""

import random
import unittest

from fewersteps.algebra.bags import Bag
from fewersteps.books.program import Program, made_program
from fewersteps.decide.alike import is_empty
from fewersteps.decide.tables import MAX_REST, MAX_ROWS, can_lead, closed_table, first_sum, gone_on, is_closed_table
from fewersteps.decide.tables import is_sum, led, split, stripped
from fewersteps.errors import InvalidBag, InvalidOperation, TooMany, UnknownName
from tests import slow_tables
from tests.cases import Case, spoil
from tests.values import BARE, COPY, EARLY, EVERY, FLIP, LATE, LINE, LOOSE, LOST, NEST, PAIR, SHUFFLE, SOUND, THREE
from tests.values import TOSS, WIDE, anything, long_program, ways_program

# Alike to EARLY, with the put behind the takes.
TARDY = Program(
    PAIR,
    (("take", "x", {"a": 0, "end": 1}), ("take", "y", {"b": 1, "end": 2}), ("put", "z", "a", 3), ("done",)),
)
# Alike to EARLY, but it takes y ahead of x.
CROSSED = Program(
    PAIR,
    (("put", "z", "a", 1), ("take", "y", {"b": 1, "end": 2}), ("take", "x", {"a": 2, "end": 3}), ("done",)),
)
# It takes one of x and one of y, again and again, and puts what it took.
STEPS = Program(
    PAIR,
    (
        ("take", "x", {"a": 1, "end": 4}), ("put", "z", "a", 2), ("take", "y", {"b": 3}), ("put", "z", "b", 0),
        ("take", "y", {"end": 5}), ("done",),
    ),
)
# The same, but y comes first each time, and the signs are put in the order of STEPS.
YIELDS = Program(
    PAIR,
    (
        ("take", "y", {"b": 1, "end": 4}), ("take", "x", {"a": 2}), ("put", "z", "a", 3), ("put", "z", "b", 0),
        ("take", "x", {"end": 5}), ("done",),
    ),
)
# Alike to TOSS less FLIP, and to FLIP less TOSS with other signs.
BAGS = [
    Bag.of(COPY) - LATE, Bag(LINE, ((COPY, 2), (LATE, -1), (TOSS, 3))), Bag.of(EARLY) - TARDY, Bag.of(EARLY) - CROSSED,
    Bag.of(STEPS) - YIELDS, Bag.of(SHUFFLE) - LOOSE, Bag.of(NEST) + TOSS - FLIP, Bag.of(THREE) - EVERY,
    Bag.of(SOUND) - ways_program(7), Bag.of(LOST) - COPY, Bag(PAIR, ((LOOSE, -2), (EARLY, 10 ** 70 // 10 ** 11))),
]


def random_rest(pick, signs, ended, most):
    """A rest of a stream, whose end was met or not."""
    word = "".join(pick.choice(signs) for _ in range(pick.randrange(most + 1)))
    return word + "." if ended and pick.random() < 0.6 else "" if ended else word


def random_sum(pick, bag, many, most=2):
    """A sum of at most so many items; where a program is of no use, it has none of it."""
    items = {}
    for _ in range(many):
        index = pick.randrange(len(bag))
        program = bag.pairs[index][0]
        places = [at for at in range(len(program)) if program.is_of_use(at)]
        if places:
            at = pick.choice(places)
            rests = [random_rest(pick, signs, name in program.ended(at), most) for name, signs in bag.streams.sources]
            rests.extend(random_rest(pick, signs, False, most) for _, signs in bag.streams.sinks)
            items[(index, at, tuple(rests))] = pick.choice([1, -1, 2, -3, 10 ** 59])
    return tuple((*key, items[key]) for key in sorted(items))


def sums_of(bag, depth=3):
    """The first sum, and sums into which it is split, and random ones."""
    found = [first_sum(bag), ()]
    fresh = [first_sum(bag)]
    for _ in range(depth):
        later = []
        for items in fresh:
            for name, _ in bag.streams.sources:
                if slow_tables.can_lead(bag, items, name):
                    later.extend(slow_tables.split(bag, items, name).values())
        fresh = [items for at, items in enumerate(later) if items not in found and items not in later[:at]][:8]
        found.extend(fresh)
    pick = random.Random(len(bag.pairs) + len(found))
    return found + [random_sum(pick, bag, 1 + at % 5) for at in range(25)]


class TestExamples(Case):
    def test_examples(self):
        bag = Bag.of(COPY) - LATE
        self.same(first_sum(bag), ((0, 0, ("", ""), 1), (1, 0, ("", ""), -1)))
        self.same(
            [
                split(bag, first_sum(bag), "x")["a"], len(closed_table(bag)),
                is_closed_table(Bag.of(COPY) - COPY, {}),
            ],
            [((0, 1, ("", ""), 1), (1, 1, ("", ""), -1)), 10, True],
        )
        self.assertEqual([MAX_ROWS, MAX_REST], [200, 20])


class TestSum(Case):
    def test_right(self):
        for bag in BAGS:
            for value in sums_of(bag):
                self.assertIs(is_sum(bag, value), True)

    def test_first(self):
        self.same(first_sum(Bag.of(COPY) * -7), ((0, 0, ("", ""), -7),))
        self.same(first_sum(Bag.of(LOST) + COPY), ((1, 0, ("", ""), 1),))
        self.same([first_sum(Bag.of(LOST)), first_sum(Bag.none(WIDE))], [(), ()])
        self.same(first_sum(Bag.of(THREE)), ((0, 0, ("",) * 6, 1),))
        # Of use with a place 1 that is not, and without a place 1.
        half = Program(BARE, (("either", (1, 2)), ("take", "x", {}), ("take", "x", {"end": 3}), ("done",)))
        self.same(first_sum(Bag.of(half)), ((0, 0, ("",), 1),))
        self.same(first_sum(Bag.of(Program.nothing(BARE)) + half), ((1, 0, ("",), 1),))

    def test_places(self):
        bag = Bag.of(LOOSE)
        for at in range(7):
            ended = LOOSE.ended(at)
            rests = tuple("a." if name == "x" and name in ended else "" for name in "xyz")
            self.assertIs(is_sum(bag, ((0, at, rests, 1),)), at not in (4, 5))
        for at in (7, -1, True, None, "0", 10 ** 80):
            self.assertIs(is_sum(bag, ((0, at, ("", "", ""), 1),)), False)
        for index in (1, -1, False, None, "0", 10 ** 80):
            self.assertIs(is_sum(bag, ((index, 0, ("", "", ""), 1),)), False)

    def test_rests(self):
        # At place 0 no source has ended, at place 6 y has, and at place 2 both have.
        bag = Bag.of(LOOSE)
        right = [
            (0, ("aa", "b", "ab")), (0, ("", "", "")), (6, ("a", "", "b")), (6, ("a", ".", "b")), (6, ("", "bb.", "")),
            (2, ("a.", "b.", "ba")), (2, ("", "", "a")), (2, (".", "", "")), (0, ("a" * 300, "", "")),
        ]
        wrong = [
            (0, ("a.", "", "")), (0, (".", "", "")), (0, ("", "", "a.")), (0, ("b", "", "")), (0, ("", "", "c")),
            (6, ("a.", "", "")), (6, ("", "b", "")), (6, ("", ".b", "")), (6, ("", "b..", "")), (2, ("a", "", "")),
            (0, ("", "")), (0, ("", "", "", "")), (0, ["", "", ""]), (0, "aba"), (0, ("", None, "")), (0, None),
            (2, ("..", "", "")), (0, (("a",), "", "")), (6, ("", 1, "")),
        ]
        for place, rests in right:
            self.assertIs(is_sum(bag, ((0, place, rests, 1),)), True)
        for place, rests in wrong:
            self.assertIs(is_sum(bag, ((0, place, rests, 1),)), False)
            self.refused(InvalidOperation, stripped, bag, ((0, place, rests, 1),))

    def test_factors(self):
        bag = Bag.of(COPY)
        for factor in (1, -1, 10 ** 59, 10 ** 60 - 1, 1 - 10 ** 60):
            self.assertIs(is_sum(bag, ((0, 0, ("", ""), factor),)), True)
            self.same(stripped(bag, ((0, 0, ("b", "a"), factor),)), ((0, 0, ("", ""), factor),))
        for factor in (0, True, None, "1", (1,), {}, 10 ** 60, -10 ** 60, 10 ** 99):
            self.assertIs(is_sum(bag, ((0, 0, ("", ""), factor),)), False)
            # One of two items is enough.
            items = ((0, 0, ("", ""), 1), (0, 0, ("", "a"), factor))
            for call in (is_sum, stripped, gone_on):
                if call == is_sum:
                    self.assertIs(call(bag, items), False)
                else:
                    self.refused(InvalidOperation, call, bag, items)
            for call in (can_lead, led, split):
                self.refused(InvalidOperation, call, bag, items, "x")
                # That it is no sum comes ahead of an unknown name.
                self.refused(InvalidOperation, call, bag, items, "z")

    def test_factors_that_are_made(self):
        # Bags of the package can have longer factors, and so can what is made of them and of sums.
        bag = Bag.of(COPY) * 10 ** 59 * 10
        self.same(first_sum(bag), ((0, 0, ("", ""), 10 ** 60),))
        self.assertIs(is_sum(bag, first_sum(bag)), False)
        half = (10 ** 60 - 1, 10 ** 60 - 1)
        items = ((0, 1, ("a", ""), half[0]), (0, 3, (".", "a"), 1), (0, 3, (".", "b"), half[1]))
        self.same(stripped(Bag.of(COPY), items), items)
        items = ((0, 0, ("", "ab"), half[0]), (0, 1, ("", "b"), half[1]))
        self.same(led(Bag.of(COPY), items, "x")[-1][3], half[0])
        twice = ((0, 0, ("", "a"), half[0]), (0, 1, ("", ""), half[1]))
        self.assertEqual({item[3] for item in led(Bag.of(COPY), twice, "x")}, {2 * half[0]})

    def test_order(self):
        bag = Bag.of(COPY) - LATE
        items = [(0, 0, ("", ""), 1), (0, 0, ("", "a"), -1), (0, 0, ("a", ""), 5), (0, 2, ("", ""), 1)]
        items.append((1, 0, ("", ""), 2))
        self.assertIs(is_sum(bag, tuple(items)), True)
        self.assertIs(is_sum(bag, items), False)
        for at in range(4):
            turned = items[:at] + [items[at + 1], items[at]] + items[at + 2:]
            self.assertIs(is_sum(bag, tuple(turned)), False)
            self.assertIs(is_sum(bag, (*items[:at], items[at], *items[at:])), False)
            # Items that differ in their factors alone.
            self.assertIs(is_sum(bag, (*items[:at], (*items[at][:3], -9), *items[at:])), False)

    def test_every_value(self):
        for bag in (Bag.of(COPY) - LATE, Bag.none(PAIR)):
            for value in anything():
                self.assertIs(is_sum(bag, value), value == ())
                self.assertIs(is_sum(bag, (value,)), False)
                self.assertIs(is_sum(bag, ((0, 0, value, 1),)), False)


class TestStripped(Case):
    def test_several_streams(self):
        bag = Bag.of(LOOSE) - EARLY
        value = ((0, 6, ("aa", "b.", "abb"), 1), (1, 2, ("aa.", "b", "abab"), 2))
        # At place 6 of LOOSE y has ended, and at place 2 of EARLY x has.
        self.same(stripped(bag, value), ((0, 6, ("", ".", "b"), 1), (1, 2, (".", "", "ab"), 2)))
        done = ((0, 2, ("a.", "b.", "ab"), 1), (1, 3, ("a.", "b.", "ab"), -1))
        self.same(stripped(bag, done), ((0, 2, ("", "", ""), 1), (1, 3, ("", "", ""), -1)))
        self.same([stripped(bag, ()), stripped(bag, value[:1])], [(), ((0, 6, ("", "", ""), 1),)])

    def test_slow(self):
        for bag in BAGS:
            for value in sums_of(bag):
                found = stripped(bag, value)
                self.same(found, slow_tables.stripped(value))
                self.assertIs(is_sum(bag, found), True)
                self.assertEqual(stripped(bag, found), found)


class TestLead(Case):
    def test_slow(self):
        for bag in BAGS:
            for value in sums_of(bag):
                for name, _ in bag.streams.sources:
                    self.assertIs(can_lead(bag, value, name), slow_tables.can_lead(bag, value, name))
                    if not can_lead(bag, value, name):
                        self.refused(InvalidOperation, led, bag, value, name)
                        self.refused(InvalidOperation, split, bag, value, name)
                        continue
                    self.same(led(bag, value, name), slow_tables.led(bag, value, name))
                    self.assertIs(is_sum(bag, led(bag, value, name)), True)
                    self.same(split(bag, value, name), slow_tables.split(bag, value, name))
                    for part in split(bag, value, name).values():
                        self.assertIs(is_sum(bag, part), True)

    def test_which_source(self):
        # EARLY takes x again and again without y; behind the end of x only y is taken.
        bag = Bag.of(EARLY)
        first = first_sum(bag)
        self.same([can_lead(bag, first, "x"), can_lead(bag, first, "y")], [True, False])
        late = ((0, 2, ("", "", ""), 1),)
        self.same([can_lead(bag, late, "x"), can_lead(bag, late, "y")], [False, True])
        # With a rest of x it is open, though it has ended; with a rest of y it need not be gone on with.
        self.same([can_lead(bag, ((0, 2, (rest, "", ""), 1),), "x") for rest in ("a.", ".", "")], [True, True, False])
        self.assertIs(can_lead(bag, ((0, 0, ("", "b", ""), 1),), "y"), True)
        self.assertIs(can_lead(bag, ((0, 0, ("", "", ""), 1), (0, 0, ("", "b", ""), 1)), "y"), False)
        crossed = Bag.of(EARLY) - CROSSED
        self.same([can_lead(crossed, first_sum(crossed), name) for name in "xy"], [False, False])
        both = Bag.of(STEPS) - YIELDS
        self.same([can_lead(both, first_sum(both), name) for name in "xy"], [True, True])

    def test_ways_of_no_use_do_not_count(self):
        # Place 4 goes round without x, but no done place is reached from it.
        program = Program(
            PAIR,
            (
                ("either", (1, 4)), ("take", "x", {"a": 1, "end": 2}), ("take", "y", {"end": 3}), ("done",),
                ("take", "y", {"b": 4}),
            ),
        )
        bag = Bag.of(program)
        self.assertIs(can_lead(bag, first_sum(bag), "x"), True)
        self.same(led(bag, first_sum(bag), "x"), ((0, 1, ("a", "", ""), 1), (0, 2, (".", "", ""), 1)))

    def test_led(self):
        bag = Bag.of(TOSS) - COPY
        first = first_sum(bag)
        self.same(
            led(bag, first, "x"),
            (
                (0, 1, ("a", ""), 1), (0, 1, ("b", ""), 1), (0, 4, (".", ""), 1), (1, 1, ("a", ""), -1),
                (1, 2, ("b", ""), -1), (1, 3, (".", ""), -1),
            ),
        )
        # Ways through an either place, one of which stands there twice.
        self.same(
            led(bag, ((0, 1, ("", "b"), 5),), "x"),
            (
                (0, 1, ("a", "ba"), 10), (0, 1, ("a", "bb"), 5), (0, 1, ("b", "ba"), 10), (0, 1, ("b", "bb"), 5),
                (0, 4, (".", "ba"), 10), (0, 4, (".", "bb"), 5),
            ),
        )

    def test_items_that_cancel(self):
        bag = Bag.of(COPY)
        # What is gone on with becomes what is there already.
        value = ((0, 0, ("", "b"), 2), (0, 0, ("b", "b"), 1), (0, 1, ("a", "b"), -2), (0, 2, ("b", "b"), 3))
        self.same(led(bag, value, "x"), ((0, 0, ("b", "b"), 1), (0, 2, ("b", "b"), 5), (0, 3, (".", "b"), 2)))
        both = ((0, 0, ("", "b"), -1), (0, 2, ("", ""), 1))
        self.same([led(bag, both, "x"), split(bag, both, "x")], [(), {}])

    def test_split(self):
        bag = Bag.of(LOOSE)
        value = ((0, 0, ("", "", ""), 1),)
        self.same(list(split(bag, value, "y")), ["b", "end"])
        self.same(split(bag, value, "y")["end"], ((0, 6, ("", "", ""), 1), (0, 6, ("", "", "b"), 1)))
        self.same(split(bag, ((0, 6, ("", "bb.", "a"), 3),), "y"), {"b": ((0, 6, ("", "b.", "a"), 3),)})
        self.same(split(bag, ((0, 6, ("", ".", "a"), 3),), "y"), {"end": ((0, 6, ("", "", "a"), 3),)})
        self.same([led(bag, (), "y"), split(bag, (), "y"), can_lead(bag, (), "x")], [(), {}, True])
        self.assertEqual(list(split(Bag.of(THREE), first_sum(Bag.of(THREE)), "p")), ["a", "d", "end"])

    def test_what_sums_stand_for(self):
        # A led sum stands for the same ways; one that is split, for those of its parts with the signs ahead of them.
        for bag in BAGS:
            for value in sums_of(bag, 2)[:9]:
                most = max([len("".join(item[2])) for item in value], default=0) + 3
                ways = slow_tables.all_ways(bag, value, most)
                for name, _ in bag.streams.sources:
                    if not can_lead(bag, value, name):
                        continue
                    self.assertEqual(slow_tables.all_ways(bag, led(bag, value, name), most), ways)
                    at, found = bag.streams.names.index(name), {}
                    for sign, part in split(bag, value, name).items():
                        for words, factor in slow_tables.all_ways(bag, part, most - 1).items():
                            ahead = "." if sign == "end" else sign
                            found[(*words[:at], ahead + words[at], *words[at + 1:])] = factor
                    self.assertEqual(found, ways)


class TestGoneOn(Case):
    def test_known(self):
        bag = Bag.of(EARLY) - TARDY
        self.same(gone_on(bag, ((0, 3, ("", "", "aa"), 4), (1, 2, ("", "", "a"), -4))), {})
        found = gone_on(bag, ((0, 3, ("", "", "ba"), 4), (1, 2, ("", "", "a"), -1)))
        self.same(found, {("", "", "aa"): -1, ("", "", "ba"): 4})
        self.same([gone_on(bag, ()), gone_on(Bag.none(LINE), ())], [{}, {}])

    def test_either(self):
        program = Program(
            LINE,
            (
                ("take", "x", {"end": 1}), ("either", (2, 3, 2, 4)), ("put", "z", "b", 5), ("either", (4, 2)),
                ("put", "z", "a", 5), ("done",),
            ),
        )
        bag = Bag.of(program)
        self.same(gone_on(bag, ((0, 1, ("", "b"), 2), (0, 5, ("", "bb"), -1))), {("", "ba"): 4, ("", "bb"): 5})
        self.same(gone_on(bag, ((0, 1, ("", "b"), 1), (0, 5, ("", "bb"), -3))), {("", "ba"): 2})

    def test_open(self):
        bag = Bag.of(EARLY) - TARDY
        items = [(0, 0, ("", "", ""), 1), (0, 2, ("", "", ""), 1), (0, 3, (".", "", ""), 1), (1, 2, ("", "b.", ""), 1)]
        for item in items:
            self.refused(InvalidOperation, gone_on, bag, (item,))
            self.refused(InvalidOperation, gone_on, bag, tuple(sorted([item, (1, 3, ("", "", "b"), 1)])))

    def test_slow(self):
        for bag in BAGS:
            names = [name for name, _ in bag.streams.sources]
            for value in sums_of(bag, 4):
                closed = [item for item in value if not any(slow_tables.is_open(bag, item, name) for name in names)]
                self.same(gone_on(bag, tuple(closed)), slow_tables.ends(bag, closed))
                if len(closed) < len(value):
                    self.refused(InvalidOperation, gone_on, bag, value)


def ahead(many):
    """Programs of LINE that put so many signs ahead of what they take, and behind it."""
    takes = {"a": many, "b": many, "end": many + 1}
    puts = [("put", "z", "a", at + 1) for at in range(many)]
    one = Program(LINE, (*puts, ("take", "x", takes), ("done",)))
    two = Program(LINE, (("take", "x", {"a": 0, "b": 0, "end": 1}), *[("put", "z", "a", at + 2) for at in range(many)],
                         ("done",)))
    return one, two


def words_of_y(many):
    """Programs of PAIR that take so many signs of y ahead of those of x, and behind them."""
    takes = [("take", "y", {"b": at + 1}) for at in range(many)]
    one = (*takes, ("take", "y", {"end": many + 1}), ("take", "x", {"a": many + 1, "end": many + 2}), ("done",))
    takes = [("take", "y", {"b": at + 2}) for at in range(many)]
    two = (("take", "x", {"a": 0, "end": 1}), *takes, ("take", "y", {"end": many + 2}), ("done",))
    return Program(PAIR, one), Program(PAIR, two)


def ring(many, behind):
    """A program of PAIR that takes x by so many places, and then just so many signs of y."""
    takes = [("take", "x", {"a": (at + 1) % many, "end": many}) for at in range(many)]
    takes.extend(("take", "y", {"b": many + at + 1}) for at in range(behind))
    return Program(PAIR, (*takes, ("take", "y", {"end": many + behind + 1}), ("done",)))


EMPTY = [
    Bag.of(COPY) - LATE, Bag.of(EARLY) - TARDY, Bag.of(STEPS) - YIELDS, Bag.of(COPY) - COPY, Bag.none(PAIR),
    Bag.of(LOST),
    Bag(LINE, ((COPY, 10 ** 59), (LATE, -10 ** 59), (LOST, 7))) * 9, 2 * Bag.of(TARDY) - 2 * Bag.of(EARLY),
    Bag.of(ahead(3)[0]) - ahead(3)[1], Bag.of(words_of_y(3)[0]) - words_of_y(3)[1], Bag.of(ring(2, 1)) - ring(3, 1),
]


class TestClosed(Case):
    def test_tables(self):
        for bag in EMPTY:
            table = closed_table(bag)
            self.assertIs(is_empty(bag), True)
            self.assertIs(is_closed_table(bag, table), True)
            self.assertIs(slow_tables.is_closed(bag, table, first_sum(bag)), True)
            self.assertEqual(list(table), sorted(table))
            self.check_led_by_the_first(bag, table)

    def check_led_by_the_first(self, bag, table):
        """Each sum is led by the first source that can lead it, and comes from another one."""
        first = slow_tables.stripped(first_sum(bag))
        reached = [first] if first else []
        for items in reached:
            names = [name for name, _ in bag.streams.sources if slow_tables.can_lead(bag, items, name)]
            if any(slow_tables.is_open(bag, item, name) for item in items for name, _ in bag.streams.sources):
                self.assertEqual(table[items], names[0])
                parts = [slow_tables.stripped(part) for part in slow_tables.split(bag, items, names[0]).values()]
                reached.extend(part for at, part in enumerate(parts) if part not in reached and part not in parts[:at])
            else:
                self.assertIsNone(table[items])
        self.assertEqual(sorted(reached), list(table))

    def test_long_factors(self):
        # A sum with a factor of more than sixty digits is found, but it is none of a table that is passed.
        bag = Bag(LINE, ((COPY, 10 ** 59), (LATE, -10 ** 59))) * 10
        table = closed_table(bag)
        self.assertEqual({abs(item[3]) for items in table for item in items}, {10 ** 60})
        self.assertIs(is_closed_table(bag, table), False)
        small = closed_table(Bag.of(COPY) - LATE)
        self.assertEqual([tuple(item[:3] for item in items) for items in small],
                         [tuple(item[:3] for item in items) for items in table])
        self.assertIs(is_closed_table(Bag.of(COPY) - LATE, {**small, **table}), False)
        nines = {tuple((*item[:3], item[3] * (10 ** 60 - 1)) for item in items): small[items] for items in small}
        self.assertIs(is_closed_table(Bag.of(COPY) - LATE, {**small, **nines}), True)

    def test_known(self):
        self.same(closed_table(Bag.of(EARLY) - TARDY), {
            ((0, 0, ("", "", ""), 1), (1, 0, ("", "", ""), -1)): "x",
            ((0, 1, ("", "", "a"), 1), (1, 0, ("", "", ""), -1)): "x",
            ((0, 2, ("", "", "a"), 1), (1, 1, ("", "", ""), -1)): "y",
            ((0, 3, ("", "", "a"), 1), (1, 2, ("", "", ""), -1)): None,
        })
        for bag in (Bag.none(LINE), Bag.of(LOST), Bag.of(COPY) - COPY):
            self.same(closed_table(bag), {})

    def test_too_few_and_too_much(self):
        for bag in EMPTY:
            table = closed_table(bag)
            for items in table:
                fewer = {key: source for key, source in table.items() if key != items}
                self.assertIs(is_closed_table(bag, fewer), slow_tables.is_closed(bag, fewer, first_sum(bag)))
                for source in (None, "x", "y", "z", "", "end", True, 0, ("x",), 10 ** 70):
                    changed = {**table, items: source}
                    right = source == table[items] or source == "y" and table[items] == "x" and bag.streams == PAIR
                    if right and source == "y":
                        right = slow_tables.is_closed(bag, changed, first_sum(bag))
                    self.assertIs(is_closed_table(bag, changed), right)

    def test_more_sums(self):
        bag = Bag.of(COPY) - LATE
        table = closed_table(bag)
        # One more sum that is right for itself, also by what stands in the table already.
        more = {((0, 3, ("", "a"), 5), (1, 5, ("", ""), -5)): None}
        self.assertIs(is_closed_table(bag, {**table, **more}), True)
        doubled = {tuple((*item[:3], item[3] * 2) for item in items): source for items, source in table.items()}
        self.assertIs(is_closed_table(bag, {**table, **doubled}), True)
        self.assertIs(is_closed_table(bag, doubled), False)
        for items, source in [
            ((), None), ((), "x"), (((0, 3, ("", "a"), 1), (1, 5, ("", ""), -2)), None), (((0, 3, ("", ""), 1),), None),
            (((0, 3, ("", "a"), 5), (1, 7, ("", "a"), -5)), None), (((0, 0, ("", ""), 2), (1, 0, ("", ""), -1)), "x"),
            (((0, 0, ("", ""), 1),), None), ((((0, 0, ("", ""), 1)),), "z"), ("x", "x"), (None, None), (1, "x"),
            (((1, 0, ("", ""), -1), (0, 0, ("", ""), 1)), "x"),
        ]:
            self.assertIs(is_closed_table(bag, {**table, items: source}), False)

    def test_led_by_another_source(self):
        bag = Bag.of(STEPS) - YIELDS
        table = closed_table(bag)
        self.assertEqual(set(table.values()), {"x", "y", None})
        # A table that is led by y wherever this can be done.
        found, waiting = {}, [first_sum(bag)]
        while waiting:
            items = waiting.pop()
            if items and items not in found:
                names = [name for name in "yx" if slow_tables.can_lead(bag, items, name)]
                found[items] = names[0] if names else None
                if names:
                    waiting.extend(map(slow_tables.stripped, slow_tables.split(bag, items, names[0]).values()))
        self.assertNotEqual(found, table)
        self.assertIs(is_closed_table(bag, found), True)
        self.assertIs(is_closed_table(bag, {**found, **table}), True)

    def test_empty_table(self):
        self.same([is_closed_table(Bag.none(LINE), {}), is_closed_table(Bag.of(LOST), {})], [True, True])
        self.same([is_closed_table(Bag.of(COPY), {}), is_closed_table(Bag.of(COPY) - LATE, {})], [False, False])

    def test_other_values(self):
        bag = Bag.of(COPY) - LATE
        for value in [*anything(), list(closed_table(bag).items()), tuple(closed_table(bag))]:
            self.assertIs(is_closed_table(bag, value), False)
            self.assertIs(is_closed_table(Bag.of(LOST), value), value == {} and isinstance(value, dict))
        turned = {key: closed_table(bag)[key] for key in reversed(closed_table(bag))}
        self.assertIs(is_closed_table(bag, turned), True)
        self.assertIs(is_closed_table(Bag.of(LATE) - COPY, turned), False)

    def test_bags_that_are_not_empty(self):
        for bag in (Bag.of(COPY), Bag.of(TOSS) - FLIP, Bag.of(EARLY) - STEPS, Bag.of(COPY) * 2 - LATE, Bag.of(SOUND)):
            self.refused(InvalidOperation, closed_table, bag)

    def test_no_source_can_lead(self):
        for bag in (Bag.of(EARLY) - CROSSED, Bag.of(SHUFFLE) - SHUFFLE.ordered(), Bag.of(SHUFFLE)):
            self.refused(InvalidOperation, closed_table, bag)
        self.assertIs(is_empty(Bag.of(EARLY) - CROSSED), True)

    def test_rests(self):
        for many in (1, 19, 20):
            bag = Bag.of(ahead(many)[0]) - ahead(many)[1]
            table = closed_table(bag)
            self.assertEqual(max(len(rest) for items in table for item in items for rest in item[2]), many)
            self.assertIs(is_closed_table(bag, table), True)
        for many in (21, 22):
            self.refused(TooMany, closed_table, Bag.of(ahead(many)[0]) - ahead(many)[1], keeps=("limit", 20))

    def test_rests_with_ends(self):
        bag = Bag.of(words_of_y(19)[0]) - words_of_y(19)[1]
        longest = max((rest for items in closed_table(bag) for item in items for rest in item[2]), key=len)
        self.assertEqual(longest, "b" * 19 + ".")
        self.refused(TooMany, closed_table, Bag.of(words_of_y(20)[0]) - words_of_y(20)[1], keeps=("limit", 20))

    def test_rests_without_an_end(self):
        # An empty bag whose rests grow and grow.
        puts = (("put", "z", "a", 2), ("put", "z", "a", 0))
        double = Program(LINE, (("take", "x", {"a": 1, "end": 3}), *puts, ("done",)))
        single = Program(LINE, (("take", "x", {"a": 1, "end": 2}), ("put", "z", "a", 0), ("done",)))
        either = Program(
            LINE,
            (
                ("either", (1, 4)), ("take", "x", {"a": 2, "end": 7}), ("put", "z", "a", 3), ("put", "z", "a", 1),
                ("take", "x", {"a": 5, "end": 7}), ("either", (6,)), ("put", "z", "a", 4), ("done",),
            ),
        )
        bag = Bag.of(double) + single - either
        self.assertIs(is_empty(bag), True)
        self.refused(TooMany, closed_table, bag, keeps=("limit", 20))

    def test_rows(self):
        table = closed_table(Bag.of(ring(18, 0)) - ring(11, 0))
        self.assertEqual(len(table), 200)
        self.assertIs(is_closed_table(Bag.of(ring(18, 0)) - ring(11, 0), table), True)
        self.refused(TooMany, closed_table, Bag.of(ring(18, 1)) - ring(11, 1), keeps=("limit", 200))
        self.refused(TooMany, closed_table, Bag.of(ring(19, 0)) - ring(17, 0), keeps=("limit", 200))

    def test_no_limits_for_judging(self):
        bag = Bag.of(ahead(22)[0]) - ahead(22)[1]
        one, two = ((0, 0, ("", ""), 1), (1, 0, ("", ""), -1)), ((0, 22, ("", "a" * 22), 1), (1, 0, ("", ""), -1))
        three = ((0, 23, ("", "a" * 22), 1), (1, 1, ("", ""), -1))
        self.assertIs(is_closed_table(bag, {one: "x", two: "x", three: None}), True)
        self.assertIs(is_closed_table(bag, {one: "x", two: "x"}), False)
        wide = Bag.of(ring(19, 0)) - ring(17, 0)
        rows = {((0, at % 19, ("",) * 3, 1), (1, at % 17, ("",) * 3, -1)): "x" for at in range(323)}
        rows[((0, 19, ("",) * 3, 1), (1, 17, ("",) * 3, -1))] = "y"
        rows[((0, 20, ("",) * 3, 1), (1, 18, ("",) * 3, -1))] = None
        self.assertIs(is_closed_table(wide, rows), True)

    def test_several_errors(self):
        # Not empty, and with too long rests; not empty, and led by no source; not empty, with too many sums.
        many = Bag.of(ahead(22)[0]) - ahead(21)[1]
        for bag in (many, Bag.of(EARLY) + CROSSED, Bag.of(ring(19, 0)) * 2 - ring(17, 0)):
            with self.assertRaises((InvalidOperation, TooMany)) as caught:
                closed_table(bag)
            self.assertIn(getattr(caught.exception, "limit", 20), (20, 200))

    def test_never_by_the_flow(self):
        great = ways_program(20001)
        self.refused(InvalidOperation, closed_table, Bag.of(great))
        other = Bag.of(great) - 20001 * Bag.of(Program.reading(BARE)) + 20001 * Bag.of(ADDED)
        self.assertTrue(other.flow > 20000)
        self.assertIs(is_closed_table(other, closed_table(other)), True)
        self.refused(InvalidOperation, closed_table, other + SOUND)

    def test_eighty_places(self):
        table = closed_table(Bag.of(long_program(79)) - with_either(80))
        self.assertEqual(len(table), 2)
        self.refused(InvalidOperation, closed_table, Bag.of(long_program(80)) - long_program(79))


# All words of BARE but the empty one.
ADDED = Program(BARE, (("take", "x", {"a": 1}), ("take", "x", {"a": 1, "end": 2}), ("done",)))


def with_either(many):
    """A program of LINE with so many places, alike to the long one with one place fewer, which has no either place."""
    puts = [("put", "z", "ab"[at % 2], at + 2) for at in range(1, many - 2)]
    return made_program(LINE, (("take", "x", {"end": 1}), ("either", (2,)), *puts, ("done",)))


class TestRefused(Case):
    def test_no_bag(self):
        for value in anything():
            if not isinstance(value, Bag):
                for call in (first_sum, closed_table):
                    self.refused(InvalidBag, call, value)
                for call in (is_sum, stripped, gone_on, is_closed_table):
                    self.refused(InvalidBag, call, value, ())
                    self.refused(InvalidBag, call, value, None)
                for call in (can_lead, led, split):
                    self.refused(InvalidBag, call, value, None, None)

    def test_no_sum(self):
        bag = Bag.of(COPY) - LATE
        for value in [*anything(), ((0, 0, ("", ""), 0),), ((1, 0, ("", ""), 1), (0, 0, ("", ""), 1))]:
            if value != ():
                for call in (stripped, gone_on):
                    self.refused(InvalidOperation, call, bag, value)
                for call in (can_lead, led, split):
                    self.refused(InvalidOperation, call, bag, value, "x")
                    self.refused(InvalidOperation, call, bag, value, None)

    def test_no_source(self):
        bag = Bag.of(COPY) - LATE
        for value in [*anything(), "z", "y", "X"]:
            if value != "x":
                for call in (can_lead, led, split):
                    self.refused(UnknownName, call, bag, first_sum(bag), value, keeps=("wanted", value))
                    self.refused(UnknownName, call, bag, ((0, 3, ("", ""), 1),), value, keeps=("wanted", value))

    def test_cannot_be_led(self):
        bag = Bag.of(COPY) - LATE
        for value in (((0, 3, ("", ""), 1),), ((0, 0, ("", ""), 1), (1, 7, ("", ""), 1))):
            self.assertIs(can_lead(bag, value, "x"), False)
            for call in (led, split):
                self.refused(InvalidOperation, call, bag, value, "x")

    def test_unchanged(self):
        for bag in EMPTY:
            self.unchanged(first_sum, bag)
            self.unchanged(closed_table, bag)
            table = closed_table(bag)
            self.unchanged(is_closed_table, bag, table)
            for items, source in table.items():
                self.unchanged(stripped, bag, items)
                if source is not None:
                    self.unchanged(split, bag, items, source)
                    found = split(bag, items, source)
                    spoil(found)
            self.same(closed_table(bag), table)


if __name__ == "__main__":
    unittest.main()
