"""The module recipes: texts of statements, their programs, and how an `each` is unrolled."""

import itertools
import random
import unittest

from fewersteps.base.streams import Streams
from fewersteps.books.runs import fillings
from fewersteps.build.recipes import MAX_DEPTH, MAX_WORDS, is_recipe, read_recipe, unrolled
from fewersteps.decide.alike import is_alike
from fewersteps.errors import InvalidNumber, InvalidProgram, InvalidStreams, ParseError, TooMany
from tests import oracle, slow_recipes
from tests.cases import Case
from tests.values import BARE, COPY, LINE, PAIR, WIDE, but

MERGE = "each x ( a : put z a ) each y ( b : put z b )"
# The names of streams are words of statements.
WORDS = Streams((("take", "ae"), ("each", "p")), (("put", "at"), ("choose", "c"), ("rest", "r")))
NOSINK = Streams((("x", "a"), ("y", "a")), ())
ALL = (LINE, PAIR, BARE, WIDE, WORDS, NOSINK)


def vocabulary(streams):
    """All words that recipes for these streams have, and some others."""
    words = ["put", "take", "each", "rest", "choose", "(", ")", ":", ",", "|", "end", *streams.names, "", "z", "q"]
    return list(dict.fromkeys(words + [sign for name in streams.names for sign in streams.signs_of(name)]))


class TestExamples(Case):
    def test_examples(self):
        self.same(
            [
                read_recipe(PAIR, MERGE).places[0], len(read_recipe(PAIR, MERGE)),
                read_recipe(LINE, "each x ( a : put z a , b : put z b )") == COPY,
            ],
            [("take", "x", {"a": 1, "end": 2}), 5, True],
        )
        self.same(
            [is_recipe(PAIR, "choose ( rest x | ) rest y"), unrolled(PAIR, "each x ( a : ) rest y", 0)],
            [False, "take x ( a : each x ( a : ) , end : ) rest y"],
        )
        self.assertEqual([MAX_WORDS, MAX_DEPTH], [400, 12])


class TestPlaces(Case):
    def places(self, streams, text):
        """The places of a recipe, by other means; they are also those of its program."""
        found, lost = slow_recipes.places(streams, text)
        self.assertEqual(lost, 0)
        self.same(read_recipe(streams, text).places, found)
        self.assertIs(is_recipe(streams, text), True)
        return found

    def test_each_statement(self):
        self.same(self.places(BARE, "rest x"), (("take", "x", {"a": 0, "end": 1}), ("done",)))
        self.same(
            self.places(LINE, "put z a put z b rest x"),
            (
                ("put", "z", "a", 1), ("put", "z", "b", 2), ("take", "x", {"a": 2, "b": 2, "end": 3}), ("done",),
            ),
        )
        self.same(
            self.places(LINE, "take x ( b : put z b , a : ) rest x"),
            (
                ("take", "x", {"a": 1, "b": 2}), ("take", "x", {"a": 1, "b": 1, "end": 3}), ("put", "z", "b", 1),
                ("done",),
            ),
        )
        self.same(
            self.places(LINE, "each x ( b : put z a put z b ) put z b"),
            (
                ("take", "x", {"b": 1, "end": 2}), ("put", "z", "a", 3), ("put", "z", "b", 4), ("put", "z", "b", 0),
                ("done",),
            ),
        )
        self.same(
            self.places(LINE, "choose ( | put z a | put z b put z a ) rest x"),
            (
                ("either", (1, 2, 3)), ("take", "x", {"a": 1, "b": 1, "end": 4}), ("put", "z", "a", 1),
                ("put", "z", "b", 5), ("done",), ("put", "z", "a", 1),
            ),
        )
        self.same(
            self.places(LINE, "take x ( end : put z a )"),
            (("take", "x", {"end": 1}), ("put", "z", "a", 2), ("done",)),
        )

    def test_without_words(self):
        self.same(
            self.places(PAIR, "choose ( | ) each x ( a : ) each y ( b : choose ( | | | ) )"),
            (
                ("either", (1, 1)), ("take", "x", {"a": 1, "end": 2}), ("take", "y", {"b": 3, "end": 4}),
                ("either", (2, 2, 2, 2)), ("done",),
            ),
        )
        self.same(
            self.places(BARE, "take x ( end : , a : rest x )"),
            (("take", "x", {"a": 1, "end": 2}), ("take", "x", {"a": 1, "end": 2}), ("done",)),
        )
        self.same(
            self.places(LINE, "each x ( a : take x ( a : , b : ) , b : )"),
            (("take", "x", {"a": 1, "b": 0, "end": 2}), ("take", "x", {"a": 0, "b": 0}), ("done",)),
        )

    def test_each_in_others(self):
        self.places(PAIR, "each x ( a : choose ( take y ( b : put z b ) | ) put z a ) rest y")
        self.places(PAIR, "choose ( each x ( a : put z a ) rest y | rest y each x ( a : ) )")
        self.places(PAIR, "take x ( a : rest x , end : ) rest y")
        # The inner statement ends the source that the outer one takes again.
        self.refused(InvalidProgram, read_recipe, LINE, "each x ( a : each x ( b : ) )")

    def test_names_like_statements(self):
        self.places(WORDS, "put put t put choose c put rest r take take ( e : ) rest take each each ( p : )")
        self.places(WORDS, "each take ( a : put rest r , e : take each ( p : ) ) rest each")

    def test_random(self):
        pick = random.Random(7)
        right = wrong = 0
        for _ in range(1500):
            streams = pick.choice(ALL)
            text = slow_recipes.random_text(pick, streams, 4)
            found, lost = slow_recipes.places(streams, text)
            if not lost and oracle.is_right([name for name, _ in streams.sources], found) and len(found) <= 80:
                right += 1
                program = read_recipe(streams, text)
                self.same(program.places, found)
                self.assertEqual([program.streams, program], [streams, program.ordered()])
                self.assertIs(is_recipe(streams, text), True)
            elif len(text.split(" ")) <= 400:
                wrong += 1
                self.refused(InvalidProgram, read_recipe, streams, text)
                self.assertIs(is_recipe(streams, text), False)
        self.assertGreater(min(right, wrong), 200)

    def test_not_trimmed(self):
        program = read_recipe(LINE, "choose ( take x ( a : take x ( b : ) ) | ) rest x")
        self.assertIs(program.is_trimmed(), True)
        lost = read_recipe(PAIR, "choose ( each x ( a : put z a ) take y ( b : rest y ) | rest x rest y )")
        self.assertEqual(len(lost), 8)
        self.assertIs(lost.is_trimmed(), True)

    def test_not_right(self):
        for streams, text in (
                (LINE, ""), (LINE, "put z a"), (LINE, "rest x rest x"), (LINE, "rest x take x ( a : )"),
                (LINE, "each x ( a : rest x )"), (PAIR, "choose ( rest x | ) rest y"), (PAIR, "rest x"),
                (LINE, "take x ( a : rest x ) put z a rest x"), (LINE, "take x ( a : )"),
                (LINE, "take x ( end : ) rest x"), (PAIR, "take x ( a : rest x , end : ) take x ( a : ) rest y")):
            self.refused(InvalidProgram, read_recipe, streams, text)
            self.assertIs(is_recipe(streams, text), False)

    def test_runs(self):
        program = read_recipe(PAIR, "choose ( " + MERGE + " | each y ( b : put z b ) each x ( a : put z a ) )")
        self.same(fillings(program, ("aa", "b")), {("aab",): 1, ("baa",): 1})


class TestFaults(Case):
    def check(self, streams, words):
        """The fault of the words is found where no recipe goes on so."""
        at = slow_recipes.fault(streams, words)
        text = " ".join(words)
        if at is not None:
            self.refused(ParseError, read_recipe, streams, text, keeps=("at", at))
            self.refused(ParseError, unrolled, streams, text, None, keeps=("at", at))
            self.assertIs(is_recipe(streams, text), False)
        else:
            try:
                read_recipe(streams, text)
            except (InvalidProgram, TooMany):
                pass
        return at

    def test_short_texts(self):
        # All texts of up to four words, where there are no sinks, and where there is one.
        for streams in (NOSINK.without("y"), Streams((("x", "a"),), (("z", "b"),))):
            found = set()
            words = [word for word in vocabulary(streams) if word != "q"]
            for many in range(1, 4):
                for row in itertools.product(words, repeat=many):
                    if row != ("",):
                        found.add(self.check(streams, row))
            self.assertEqual(found, {None, 0, 1, 2, 3})

    def test_changed_texts(self):
        pick = random.Random(11)
        found = set()
        for _ in range(1200):
            streams = pick.choice(ALL)
            words = slow_recipes.random_text(pick, streams, 3).split(" ")
            at = pick.randrange(len(words) + 1)
            change = pick.randrange(4)
            if change == 0:
                words = words[:at]
            elif change == 1:
                words[at:at] = [pick.choice(vocabulary(streams))]
            elif change == 2:
                words[at:at + 1] = []
            else:
                words[at:at + 1] = [pick.choice(vocabulary(streams))]
            if words and words != [""]:
                found.add(self.check(streams, words))
        self.assertGreater(len(found), 15)

    def test_nothing_can_follow(self):
        # A comma behind all signs, or a bar behind four alternatives, is the fault itself.
        for streams, text, at in (
                (BARE, "each x ( a : , a : )", 5), (BARE, "take x ( a : , end : , a : )", 8),
                (BARE, "take x ( end : , end : )", 6), (BARE, "choose ( | | | | )", 5), (BARE, "choose ( | | |", 5),
                (BARE, "choose ( )", 2), (BARE, "choose ( rest x )", 4), (BARE, "each x ( )", 3),
                (BARE, "take x ( )", 3),
                (BARE, "each x ( end : )", 3), (BARE, "put x a", 0), (BARE, ")", 0), (BARE, ",", 0), (BARE, "|", 0),
                (BARE, "rest x )", 2), (BARE, "rest x ,", 2), (BARE, "take x ( a : |", 5), (BARE, "choose ( ,", 2),
                (LINE, "put x a", 1), (LINE, "put z c", 2), (LINE, "take z ( a : )", 1), (LINE, "put z", 2),
                (LINE, "put", 1), (LINE, "take x ( a :", 5), (LINE, "each x ( a : ) put z", 8),
                (LINE, "take x ( b : , b : )", 6), (LINE, "take x ( ab : )", 3), (LINE, "take x a : )", 2),
                (LINE, "take x ( a : ; b : )", 5), (LINE, "take x ( a b : )", 4), (LINE, "Rest x", 0),
                (LINE, "rest x\n", 1), (LINE, "rest x; rest x", 1)):
            self.assertEqual(self.check(streams, text.split(" ")), at)

    def test_blanks(self):
        for text, at in ((" rest x", 0), ("rest x ", 2), ("rest  x", 1), (" ", 0), ("  ", 0), ("take x ( a :  )", 5),
                         ("put z a  rest x", 3)):
            self.refused(ParseError, read_recipe, LINE, text, keeps=("at", at))
        self.refused(ParseError, read_recipe, LINE, "q" * 9000, keeps=("at", 0))

    def test_a_fault_comes_first(self):
        # Faults of two kinds: the words come ahead of how many there are, of depth and of places.
        many = "put z a " * 200
        self.refused(ParseError, read_recipe, LINE, many + "put z c", keeps=("at", 602))
        self.refused(ParseError, read_recipe, LINE, "choose ( " * 990, keeps=("at", 1980))
        self.refused(ParseError, read_recipe, LINE, "choose ( " * 990 + "?", keeps=("at", 1980))
        self.refused(TooMany, read_recipe, LINE, ("put z a " * 200).strip(), keeps=("limit", 400))
        deep = "choose ( | " * 200 + "put z a" + " )" * 200
        self.refused(TooMany, read_recipe, LINE, deep, keeps=("limit", 400))
        # The depth comes ahead of places that are not right, and these ahead of how many there are.
        self.refused(TooMany, read_recipe, LINE, "choose ( | " * 13 + "put z a" + " )" * 13, keeps=("limit", 12))
        self.refused(InvalidProgram, read_recipe, LINE, "choose ( | " * 12 + "put z a" + " )" * 12)
        self.refused(InvalidProgram, read_recipe, LINE, ("put z a " * 100).strip())

    def test_no_text(self):
        for value in but():
            if not isinstance(value, str):
                self.refused(ParseError, read_recipe, LINE, value, keeps=("at", None))
                self.refused(ParseError, unrolled, LINE, value, None, keeps=("at", None))
            self.assertIs(is_recipe(LINE, value), False)
            if not isinstance(value, Streams):
                self.refused(InvalidStreams, read_recipe, value, None)
                self.refused(InvalidStreams, is_recipe, value, None)
                self.refused(InvalidStreams, unrolled, value, None, None)


class TestLimits(Case):
    def test_words(self):
        # Four hundred words in few places: labels and empty statements.
        wide = Streams((("x", "abcd"),), (("z", "abcd"),))
        take = "take x ( a : , b : , c : , d : )"
        self.assertEqual(len(take.split(" ")), 15)
        text = " ".join([take] * 26 + ["put z a", "put z a", "rest x"])
        self.assertEqual(len(text.split(" ")), 398)
        self.assertEqual(len(read_recipe(wide, text)), 30)
        row = " ".join([take] * 26 + ["put z a", "choose ( | )", "rest x"])
        self.assertEqual(len(row.split(" ")), 399)
        self.assertEqual(len(read_recipe(wide, row)), 30)
        row = " ".join([take] * 26 + ["choose ( | )", "choose ( | )", "rest x"])
        self.assertEqual(len(row.split(" ")), 400)
        self.assertEqual([len(read_recipe(wide, row)), is_recipe(wide, row)], [30, True])
        row = " ".join([take] * 26 + ["choose ( | | )", "put z a", "rest x"])
        self.assertEqual(len(row.split(" ")), 400)
        row = " ".join([take] * 26 + ["choose ( | | )", "choose ( | )", "rest x"])
        self.assertEqual(len(row.split(" ")), 401)
        self.refused(TooMany, read_recipe, wide, row, keeps=("limit", 400))
        self.assertIs(is_recipe(wide, row), False)

    def test_depth(self):
        for many in (1, 11, 12):
            text = "choose ( | " * many + "put z a" + " )" * many + " rest x"
            self.assertEqual(len(read_recipe(LINE, text)), many + 3)
        self.refused(TooMany, read_recipe, LINE, "choose ( | " * 13 + "put z a" + " )" * 13 + " rest x",
                     keeps=("limit", 12))
        nested = "each x ( a : " + "take x ( b : " * 11 + ")" + " )" * 11
        self.assertEqual(len(read_recipe(LINE, nested)), 13)
        nested = "each x ( a : " + "take x ( b : " * 12 + ")" + " )" * 12
        self.refused(TooMany, read_recipe, LINE, nested, keeps=("limit", 12))
        # Parentheses behind each other are not deeper.
        self.assertEqual(len(read_recipe(LINE, "choose ( | ) " * 20 + "rest x")), 22)

    def test_places(self):
        self.assertEqual(len(read_recipe(LINE, "put z a " * 78 + "rest x")), 80)
        self.refused(TooMany, read_recipe, LINE, "put z a " * 79 + "rest x", keeps=("limit", 80))
        self.refused(TooMany, read_recipe, LINE, "put z a " * 132 + "rest x", keeps=("limit", 80))
        self.assertIs(is_recipe(LINE, "put z a " * 79 + "rest x"), False)
        self.assertIs(is_recipe(LINE, "put z a " * 78 + "rest x"), True)


class TestUnrolled(Case):
    def test_random(self):
        pick = random.Random(4)
        done = 0
        for _ in range(900):
            streams = pick.choice(ALL)
            text = slow_recipes.random_text(pick, streams, 3)
            if not is_recipe(streams, text):
                continue
            words = text.split(" ")
            for index in range(len(words) + 1):
                expected = slow_recipes.unrolled(text, index)
                if expected is None:
                    self.refused(InvalidNumber, unrolled, streams, text, index, keeps=("given", index))
                    continue
                if not is_recipe(streams, expected):
                    self.refused(TooMany, unrolled, streams, text, index)
                    continue
                done += 1
                self.same(unrolled(streams, text, index), expected)
                try:
                    self.assertIs(is_alike(read_recipe(streams, text), read_recipe(streams, expected)), True)
                except TooMany:
                    one, other = read_recipe(streams, text), read_recipe(streams, expected)
                    for content in itertools.islice(streams.contents(3), 12):
                        self.same(fillings(one, content), fillings(other, content))
        self.assertGreater(done, 150)

    def test_nested(self):
        text = "each x ( b : each y ( b : put z a ) , a : put z b )"
        streams = Streams((("x", "ab"), ("y", "b")), (("z", "ab"),))
        self.refused(InvalidProgram, unrolled, streams, text, 0)
        text = "choose ( each x ( b : put z a , a : ) | rest x ) put z b"
        self.same(
            unrolled(LINE, text, 2),
            "choose ( take x ( b : put z a each x ( b : put z a , a : ) , a : each x ( b : put z a , a : ) , end : )"
            " | rest x ) put z b",
        )
        text = "take x ( a : each x ( a : put z a ) , end : )"
        self.same(
            unrolled(LINE, text, 5),
            "take x ( a : take x ( a : put z a each x ( a : put z a ) , end : ) , end : )",
        )

    def test_again(self):
        text = "each x ( a : )"
        once = unrolled(BARE, text, 0)
        self.same(once, "take x ( a : each x ( a : ) , end : )")
        self.same(unrolled(BARE, once, 5), "take x ( a : " + once + " , end : )")
        self.same(
            unrolled(WORDS, "each each ( p : put put a ) rest take", 0),
            "take each ( p : put put a each each ( p : put put a ) , end : ) rest take",
        )
        # The word stands for the name of a stream there.
        self.refused(InvalidNumber, unrolled, WORDS, "each each ( p : ) rest take", 1, keeps=("given", 1))

    def test_refused(self):
        for value in but(0):
            self.refused(InvalidNumber, unrolled, BARE, "each x ( a : )", value, keeps=("given", value))
        self.refused(InvalidNumber, unrolled, BARE, "rest x", 0, keeps=("given", 0))
        self.refused(InvalidNumber, unrolled, BARE, "", 0, keeps=("given", 0))
        self.refused(InvalidNumber, unrolled, LINE, "rest x each x ( a : )", True, keeps=("given", True))

    def test_order(self):
        # The number comes ahead of too many words, too deep ones and wrong places, and behind faults of the words.
        long = ("put z a " * 200).strip()
        for text in (long, "put z a", "choose ( | " * 13 + "put z a" + " )" * 13):
            self.refused(InvalidNumber, unrolled, LINE, text, 0, keeps=("given", 0))
        self.refused(ParseError, unrolled, LINE, "put z c", 0, keeps=("at", 2))
        self.refused(TooMany, unrolled, LINE, "each x ( a : ) " + long, 0, keeps=("limit", 400))
        self.refused(InvalidProgram, unrolled, LINE, "each x ( a : ) rest x", 0)
        self.refused(TooMany, unrolled, LINE, "each x ( a : ) " + "choose ( | " * 13 + "put z a" + " )" * 13, 0,
                     keeps=("limit", 12))
        self.refused(TooMany, unrolled, LINE, "each x ( a : ) " + ("put z a " * 79).strip(), 0, keeps=("limit", 80))

    def test_the_text_comes_first(self):
        # The text has wrong places, and what it becomes has too many words: what the text raises comes first.
        wide = Streams((("x", "abcd"),), (("z", "abcd"),))
        body = " ".join(["choose ( | )"] * 10)
        text = f"each x ( a : {body} , b : {body} , c : {body} ) rest x"
        self.refused(InvalidProgram, unrolled, wide, text, 0)

    def test_result(self):
        # The text is right, and what it becomes has too many words, is too deep, or has too many places.
        wide = Streams((("x", "abcd"),), (("z", "abcd"),))
        body = " ".join(["take x ( a : , b : , c : , d : )"] * 12)
        text = f"each x ( a : {body} )"
        for more, right in (("put z a " * 7 + "choose ( | )", True), ("put z a " * 2 + "choose ( | ) " * 5, False)):
            longer = text + " " + more.strip()
            self.assertIs(is_recipe(wide, longer), True)
            self.assertEqual(len(slow_recipes.unrolled(longer, 0).split(" ")), 400 if right else 401)
            if right:
                self.assertIs(is_recipe(wide, unrolled(wide, longer, 0)), True)
            else:
                self.refused(TooMany, unrolled, wide, longer, 0, keeps=("limit", 400))
        nested = "choose ( | " * 11 + "put z a" + " )" * 11
        self.assertIs(is_recipe(LINE, f"each x ( a : {nested} )"), True)
        self.refused(TooMany, unrolled, LINE, f"each x ( a : {nested} )", 0, keeps=("limit", 12))
        nested = "choose ( | " * 10 + "put z a" + " )" * 10
        self.assertIs(is_recipe(LINE, unrolled(LINE, f"each x ( a : {nested} )", 0)), True)
        # The take, the each, the done place, and the puts twice.
        puts = ("put z a " * 39).strip()
        self.assertIs(is_recipe(LINE, f"each x ( a : {puts} )"), True)
        self.refused(TooMany, unrolled, LINE, f"each x ( a : {puts} )", 0, keeps=("limit", 80))
        puts = ("put z a " * 38).strip()
        self.assertEqual(len(read_recipe(LINE, unrolled(LINE, f"each x ( a : {puts} )", 0))), 79)
        self.assertEqual(len(read_recipe(LINE, unrolled(LINE, f"each x ( a : {puts} ) put z a", 0))), 80)
        self.refused(TooMany, unrolled, LINE, f"each x ( a : {puts} ) put z a put z a", 0, keeps=("limit", 80))


if __name__ == "__main__":
    unittest.main()
