"""The module texts: what is written, and read back, and texts that are nearly right."""

import itertools
import random
import re
import unittest

from fewersteps.base.streams import Streams
from fewersteps.books.program import Program, is_places, made_program
from fewersteps.change.exchanges import possible_exchanges
from fewersteps.decide.alike import apart
from fewersteps.decide.relations import relations
from fewersteps.errors import InvalidContent, InvalidOperation, InvalidProgram, InvalidStreams, ParseError
from fewersteps.text.texts import read_apart, read_exchange, read_program, read_row, read_words, write_apart
from fewersteps.text.texts import write_exchange, write_program, write_row, write_words
from tests.cases import Case
from tests.values import BARE, COPY, FLIP, LATE, LINE, LOOSE, NEST, PAIR, PROGRAMS, SOUND, TOSS, WIDE, but, long_program

# The names of streams are those of places, and a sign is the first one of the word `end`.
WORDS = Streams((("take", "aez"), ("done", "d")), (("put", "ab"), ("either", "n")))
WORDY = Program(
    WORDS,
    (
        ("take", "take", {"e": 1, "a": 0, "end": 2}), ("put", "either", "n", 0), ("take", "done", {"d": 3, "end": 4}),
        ("either", (2, 2, 2, 2)), ("done",),
    ),
)
SIXTY = "1" + "0" * 59
LONG = "1" + "0" * 60
SIGNS = "abexz0129 -;:.>\n,_A"


def changed(pick, text):
    """Texts that differ from this one in one sign, or in a piece."""
    for at in range(len(text) + 1):
        yield text[:at] + pick.choice(SIGNS) + text[at:]
        yield text[:at] + text[at + 1:]
        yield text[:at] + pick.choice(SIGNS) + text[at + 1:]
    pieces = text.split(" ")
    for at in range(len(pieces)):
        yield " ".join(pieces[:at] + pieces[at + 1:])
        yield " ".join(pieces[:at] + [pieces[at]] + pieces[at:])
        yield " ".join(pieces[:at][::-1] + pieces[at:])
    yield text + " "
    yield " " + text
    yield text + "\n"
    yield text.upper()
    yield text + text


class TestExamples(Case):
    def test_examples(self):
        self.same(
            [
                write_program(COPY), read_program(LINE, write_program(LATE)) == LATE,
                write_exchange(("turn", 2, (1, 0))), write_apart((("a",), ("a",), 1, 2)),
            ],
            ["take x a1 b2 end3; put z a 0; put z b 0; done", True, "turn 2 1 0", "a > a: 1 2"],
        )


class TestProgram(Case):
    def test_written(self):
        self.same(write_program(WORDY), "take take a0 e1 end2; put either n 0; take done d3 end4; either 2 2 2 2; done")
        self.same(write_program(Program.nothing(LINE)), "take x")
        self.same(write_program(TOSS), "take x a1 b1 end4; either 2 3 2; put z a 0; put z b 0; done")

    def test_back(self):
        for program in (*PROGRAMS, WORDY, long_program(80)):
            text = write_program(program)
            found = read_program(program.streams, text)
            self.assertEqual(found, program)
            self.same(found.places, program.places)
            self.same(write_program(found), text)

    def test_nearly_right(self):
        pick = random.Random(1)
        right = wrong = 0
        for program in (COPY, TOSS, LOOSE, NEST, WORDY, SOUND, Program.nothing(LINE)):
            for text in changed(pick, write_program(program)):
                try:
                    found = read_program(program.streams, text)
                except ParseError as error:
                    wrong += 1
                    self.same(error.at, self.fault(program.streams, text))
                    continue
                right += 1
                # Just one text belongs to each program.
                self.same(write_program(found), text)
                self.assertTrue(is_places(program.streams, found.places))
        self.assertGreater(min(right, wrong // 10), 15)

    def fault(self, streams, text):
        """The index of the first place whose text is none for these streams, or None."""
        number = "(0|[1-9][0-9]*)"
        takes = []
        for name, signs in streams.sources:
            moves = "".join(f"( {step}{number})?" for step in (*signs, "end"))
            takes.append(f"take {name}{moves}")
        puts = [f"put {name} [{signs}] {number}" for name, signs in streams.sinks]
        form = "|".join([*takes, *puts, f"either( {number}){{1,4}}", "done"])
        for at, piece in enumerate(text.split("; ")):
            if not re.fullmatch(form, piece):
                return at
        return None

    def test_places(self):
        for text, at in (
                ("", 0), ("done", None), ("take x a0; done", None), ("take x end1; done ", 1), ("take x end1;done", 0),
                ("take x end1; done; ", 2), ("take x end1;  done", 1), ("take x end01; done", 0), ("take x end1", None),
                ("take x end1 a0; done", 0), ("take x b0 a0 end1; done", 0), ("take x a0 a0 end1; done", 0),
                ("take x c0 end1; done", 0), ("take  x end1; done", 0), ("take z a0; done", 0), ("take q; done", 0),
                ("take; done", 0), ("take x a; done", 0), ("take x end; done", 0), ("take x 1; done", 0),
                ("take x end1; put z a 0; done", None), ("put x a 1; done", 0), ("put z c 1; done", 0),
                ("put z a; done", 0), ("put z a 1 2; done", 0), ("put z a -1; done", 0), ("put z a a; done", 0),
                ("put z ab 1; done", 0), ("put z  1; done", 0), ("either; done", 0), ("either ; done", 0),
                ("either 1 1 1 1 1; done", 0), ("either 1 1 1 1; done", None), ("either 1, 2; done", 0),
                ("Take x; done", 0), ("done x", 0), ("; done", 0), ("take x end1; done; done", None),
                ("take x end1; doned", 1), ("take x end1\n; done", 0), ("take x end+1; done", 0),
                ("take x a1 b2 end3; put z a 0; put z b 0; done; q; r", 4)):
            self.refused(ParseError, read_program, LINE, text, keeps=("at", at))
            self.same(self.fault(LINE, text), at)

    def test_long_numbers(self):
        for digits in (SIXTY, LONG, "9" * 61, "1" * 4000, "1" * 8900):
            for text in (f"put z a {digits}; done", f"take x a{digits}; done", f"either {digits} 0",
                         f"take x end{digits}; done"):
                self.refused(ParseError, read_program, LINE, text, keeps=("at", None))
            self.refused(ParseError, read_program, LINE, f"put z a {digits}; done; 1", keeps=("at", 2))
            self.refused(ParseError, read_program, LINE, f"put z a 0{digits}; done", keeps=("at", 0))

    def test_many_places(self):
        for many, right in ((79, True), (80, True), (81, False)):
            places = ["take x end1", *(f"put z a {at + 1}" for at in range(1, many - 1)), "done"]
            if right:
                self.assertEqual(len(read_program(LINE, "; ".join(places))), many)
            else:
                self.refused(ParseError, read_program, LINE, "; ".join(places), keeps=("at", None))
        self.refused(ParseError, read_program, LINE, "; ".join(["done"] * 900), keeps=("at", None))
        self.refused(ParseError, read_program, LINE, "; ".join(["done"] * 900 + ["?"]), keeps=("at", 900))

    def test_refused(self):
        for value in but():
            if not isinstance(value, Program):
                self.refused(InvalidProgram, write_program, value)
            if not isinstance(value, Streams):
                self.refused(InvalidStreams, read_program, value, None)
            if not isinstance(value, str):
                self.refused(ParseError, read_program, LINE, value, keeps=("at", None))
            elif value != "done":
                self.refused(ParseError, read_program, LINE, value, keeps=("at", 0))

    def test_other_streams(self):
        text = write_program(COPY)
        self.assertEqual(read_program(LINE, text).streams, LINE)
        self.refused(ParseError, read_program, PAIR, text, keeps=("at", 0))
        self.refused(ParseError, read_program, BARE, text, keeps=("at", 0))
        self.refused(ParseError, read_program, WIDE, text, keeps=("at", 0))
        self.refused(ParseError, read_program, LINE.renamed({"x": "x", "z": "w"}), text, keeps=("at", 1))


class TestWords(Case):
    def test_back(self):
        words = ["", "a", "ab", "zzz", "end", "qwertyuiop", "a" * 900]
        for many in range(4):
            for row in itertools.product(words, repeat=many):
                text = " ".join(word or "-" for word in row) or "."
                self.same(write_words(row), text)
                self.same(read_words(text), row)

    def test_nearly_right(self):
        pick = random.Random(2)
        for text in ("a b", "- -", ".", "ab - c", "-", "a"):
            for other in changed(pick, text):
                try:
                    found = read_words(other)
                except ParseError as error:
                    self.assertIsNone(error.at)
                    self.assertIsNone(re.fullmatch(r"\.|([a-z]+|-)( ([a-z]+|-)){0,2}", other))
                    continue
                self.same(write_words(found), other)

    def test_wrong(self):
        for value in ("", " ", "a  b", "a b c d", ". a", "a .", "..", "--", "a-", "A", "a1", "a\n", " a", "a ", "- "):
            self.refused(ParseError, read_words, value, keeps=("at", None))
        for value in but():
            if not isinstance(value, str):
                self.refused(ParseError, read_words, value, keeps=("at", None))
            if not isinstance(value, tuple) or value not in ((), ("a",), ("x", "ab"), ("done",)):
                self.refused(InvalidContent, write_words, value)
            if not isinstance(value, str) or not (value == "" or value.isalpha() and value.islower()):
                self.refused(InvalidContent, write_words, ("a", value))
        for value in (("a",) * 4, ["a"], "a", ("A",), ("a b",), ("-",), (".",), ("a\n",), ("a1",)):
            self.refused(InvalidContent, write_words, value)


class TestExchange(Case):
    def right(self):
        """Values that have the form of an exchange."""
        numbers = (0, 1, 24, 10 ** 60 - 1)
        for kind in ("delay", "advance", "swap", "cross", "skip"):
            yield from ((kind, p) for p in numbers)
        for kind in ("copy", "join", "flat"):
            yield from itertools.product((kind,), numbers, numbers)
        for many in (1, 2, 4, 5, 40):
            yield from (("turn", p, tuple(numbers[at % 4] for at in range(many))) for p in numbers)

    def test_back(self):
        for value in self.right():
            text = write_exchange(value)
            numbers = (value[1], *value[2]) if value[0] == "turn" else value[1:]
            self.same(text, " ".join([value[0], *map(str, numbers)]))
            self.same(read_exchange(text), value)
        for program in PROGRAMS:
            for exchange in possible_exchanges(program):
                self.same(read_exchange(write_exchange(exchange)), exchange)

    def test_nearly_right(self):
        pick = random.Random(3)
        for text in ("delay 0", "copy 1 20", "flat 2 1", "turn 2 1 0", "join 0 10", "turn 0 0", "skip 7", "cross 1"):
            for other in changed(pick, text):
                try:
                    found = read_exchange(other)
                except ParseError as error:
                    self.assertIsNone(error.at)
                    number = "(0|[1-9][0-9]*)"
                    form = f"(delay|advance|swap|cross|skip) {number}|(copy|join|flat) {number} {number}"
                    self.assertIsNone(re.fullmatch(f"{form}|turn {number}( {number})+", other), other)
                    continue
                self.same(write_exchange(found), other)

    def test_wrong(self):
        for value in ("", "delay", "delay ", "delay 0 1", "copy 0", "copy 0 1 2", "turn 0", "turn", "delay 00",
                      "delay 01", "delay -1", "delay +1", "delay a", "Delay 0", "delay  0", " delay 0", "wait 0",
                      f"delay {LONG}", f"turn 0 {LONG}", "turn 0 1,0", "turn 0 (1, 0)", "delay 0\n", "0", "0 delay",
                      "delay " + "1" * 8000):
            self.refused(ParseError, read_exchange, value, keeps=("at", None))
        for value in but():
            self.refused(ParseError, read_exchange, value, keeps=("at", None))
            self.refused(InvalidOperation, write_exchange, value)
            if type(value) is not int or not 0 <= value < 10 ** 60:
                self.refused(InvalidOperation, write_exchange, ("delay", value))
                self.refused(InvalidOperation, write_exchange, ("copy", 0, value))
                self.refused(InvalidOperation, write_exchange, ("turn", value, (0,)))
                self.refused(InvalidOperation, write_exchange, ("turn", 0, (0, value)))
            if value not in ((0,),):
                self.refused(InvalidOperation, write_exchange, ("turn", 0, value))
            self.refused(InvalidOperation, write_exchange, (value, 0))
        for value in (("turn", 0), ("turn", 0, ()), ("turn", 0, [0]), ("turn", 0, 1, 0), ("delay", 0, 0), ("copy", 0),
                      ("flat", 0, 1, 2), ["delay", 0], ("delay", True), ("delay", -1), ("delay", (0,)),
                      ("copy", 0, (0,)), ("delay", 10 ** 60), ("delay",), ("wait", 0)):
            self.refused(InvalidOperation, write_exchange, value)


class TestRow(Case):
    def test_back(self):
        numbers = (0, 1, -1, 24, -300, 10 ** 60 - 1, 1 - 10 ** 60)
        for many in (1, 2, 3):
            for row in itertools.product(numbers, repeat=many):
                self.same(write_row(row), " ".join(map(str, row)))
                self.same(read_row(write_row(row)), row)
        self.same(read_row(write_row((7,) * 900)), (7,) * 900)
        for row in relations((COPY, TOSS, COPY, FLIP)):
            self.same(read_row(write_row(row)), row)

    def test_nearly_right(self):
        pick = random.Random(4)
        for text in ("1 -1 0", "0", "-20 3", "7 7 7 7 7 7 7"):
            for other in changed(pick, text):
                try:
                    found = read_row(other)
                except ParseError as error:
                    self.assertIsNone(error.at)
                    self.assertIsNone(re.fullmatch("(0|-?[1-9][0-9]*)( (0|-?[1-9][0-9]*))*", other))
                    continue
                self.same(write_row(found), other)

    def test_wrong(self):
        for value in ("", " ", "-", "-0", "--1", "+1", "01", "-01", "1  2", "1 ", " 1", "1,2", "a", "1.0", "1\n", LONG,
                      "-" + LONG, "1 " + LONG, "1" * 8000, "1_0"):
            self.refused(ParseError, read_row, value, keeps=("at", None))
        self.same([read_row(SIXTY), read_row("-" + SIXTY)], [(10 ** 59,), (-10 ** 59,)])
        for value in but():
            if not isinstance(value, str) or value != "0":
                self.refused(ParseError, read_row, value, keeps=("at", None))
            if value != (0,):
                self.refused(InvalidOperation, write_row, value)
            if type(value) is not int or abs(value) >= 10 ** 60:
                self.refused(InvalidOperation, write_row, (1, value))
        for value in ([1], 1, (True,), (1, None), ("1",), (10 ** 60,)):
            self.refused(InvalidOperation, write_row, value)


class TestApart(Case):
    def test_back(self):
        words = ("", "a", "ba")
        contents = [row for many in (1, 2, 3) for row in itertools.product(words, repeat=many)]
        for content, filling in itertools.product(contents[::3], [(), *contents[::4]]):
            for one, other in ((0, 1), (-5, 10 ** 60 - 1)):
                value = (content, filling, one, other)
                self.same(write_apart(value), f"{write_words(content)} > {write_words(filling)}: {one} {other}")
                self.same(read_apart(write_apart(value)), value)
        self.same([write_apart(None), read_apart("alike")], ["alike", None])
        self.same(write_apart((("", "a"), (), 1, 0)), "- a > .: 1 0")
        for one, other in itertools.product((COPY, TOSS, FLIP, NEST), repeat=2):
            self.same(read_apart(write_apart(apart(one, other))), apart(one, other))

    def test_nearly_right(self):
        pick = random.Random(5)
        for text in ("a > b: 1 0", "- ab > .: 0 -2", "a b c > - - -: 10 0", "alike"):
            for other in changed(pick, text):
                try:
                    found = read_apart(other)
                except ParseError as error:
                    self.assertIsNone(error.at)
                    word, number = "([a-z]+|-)", "(0|-?[1-9][0-9]*)"
                    words = f"{word}( {word}){{0,2}}"
                    self.assertIsNone(re.fullmatch(rf"alike|{words} > ({words}|\.): {number} {number}", other))
                    continue
                self.same(write_apart(found), other)

    def test_wrong(self):
        for value in ("", "alike ", "Alike", "a > b", "a > b: 1", "a > b: 1 0 1", "a > b : 1 0", "a > b:1 0",
                      "a>b: 1 0", ". > b: 1 0", "a > : 1 0", " > b: 1 0", "a b c d > b: 1 0", "a > b: 01 0",
                      "a > b: -0 0",
                      f"a > b: {LONG} 0", f"a > b: 0 -{LONG}", "a > b > c: 1 0", "a > b: 1 0: 1 0", "a > b: 1  0",
                      "a  > b: 1 0", "none", "a > b: a b"):
            self.refused(ParseError, read_apart, value, keeps=("at", None))
        for value in but():
            self.refused(ParseError, read_apart, value, keeps=("at", None))
            if value is not None:
                self.refused(InvalidOperation, write_apart, value)
            if type(value) is not int or abs(value) >= 10 ** 60:
                self.refused(InvalidOperation, write_apart, (("a",), ("a",), value, 0))
            if value not in (("a",), ("x", "ab"), ("done",)):
                self.refused(InvalidOperation, write_apart, (value, ("a",), 1, 0))
            if value not in ((), ("a",), ("x", "ab"), ("done",)):
                self.refused(InvalidOperation, write_apart, (("a",), value, 1, 0))
        right = (("a",), ("b",), 1, 0)
        for value in (list(right), right[:3], right + (1,), ((), ("b",), 1, 0), (("a",) * 4, (), 1, 0),
                      (("a",), ("b",), True, 0), (("a",), ("b",), 1, 10 ** 60), (("A",), ("b",), 1, 0),
                      ("a", "b", 1, 0)):
            self.refused(InvalidOperation, write_apart, value)


class TestUnchanged(Case):
    def test_unchanged(self):
        program = made_program(LINE, COPY.places)
        self.same(write_program(program), write_program(program))
        self.assertEqual(program, COPY)
        self.assertEqual(read_program(LINE, write_program(COPY)), read_program(LINE, write_program(COPY)))


if __name__ == "__main__":
    unittest.main()
