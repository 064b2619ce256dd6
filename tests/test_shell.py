"""The module shell: commands and their answers."""

import itertools
import random
import unittest

from fewersteps.base.streams import Streams
from fewersteps.books.program import Program
from fewersteps.books.runs import fillings
from fewersteps.build.recipes import read_recipe
from fewersteps.change.exchanges import with_exchange
from fewersteps.change.merging import merged
from fewersteps.decide.alike import apart
from fewersteps.decide.relations import relations
from fewersteps.desk.desk import Desk
from fewersteps.errors import InvalidStreams
from fewersteps.text.shell import Shell
from fewersteps.text.texts import write_apart, write_program, write_row
from fewersteps.use.depends import depends
from tests.cases import Case
from tests.values import COPY, EARLY, EVERY, FLIP, LATE, LINE, LOST, NEST, PAIR, SHUFFLE, TOSS, WIDE, anything, but
from tests.values import long_program

RECIPE = "each x ( a : put z a , b : put z b )"
TURN = COPY.exchanged("z", "a", "b")
WORDS = Streams((("names", "a"), ("recipe", "a")), (("undo", "a"), ("what", "a")))


def shell_of(streams=LINE, **programs):
    """A shell with these programs."""
    shell = Shell(streams)
    for name, program in programs.items():
        assert shell(f"program {name} {write_program(program)}") != "what"
    return shell


class TestExamples(Case):
    def test_examples(self):
        shell = Shell(LINE)
        self.same(
            [
                shell("recipe copy each x ( a : put z a , b : put z b )"),
                shell("program back take x a1 b2 end3; put z b 0; put z a 0; done"), shell("heads"),
                shell("run back ab"),
            ],
            ["copy - copy", "back - back", "back:back copy:copy", "ba x 1"],
        )
        self.same(
            [
                shell("compare copy copy"), shell("pin alike back copy"), shell("depends copy z x"),
                shell("exchange back copy 1 0"), shell("undo 9"), shell("show nobody"), len(shell),
            ],
            ["alike", "refused alike back copy", "yes", "none", "nothing 9", "unknown nobody", 7],
        )


class TestCommands(Case):
    def test_enter(self):
        shell = Shell(LINE)
        self.same(shell(f"recipe late {RECIPE}"), "late - late")
        self.same(shell(f"program copy {write_program(LATE)}"), "copy - copy, late late copy")
        self.same(shell(f"recipe copy {RECIPE}"), "none")
        self.assertEqual(shell.desk().programs, {"copy": COPY, "late": COPY})
        self.same(shell(f"program copy {write_program(TURN)}"), "late copy late")
        self.same(shell("remove copy"), "copy copy -")
        self.same(shell("remove late"), "late late -")
        self.same([shell("names"), shell("heads"), len(shell), str(shell)], ["none", "none", 8, "shell of 8 commands"])
        # A recipe of eighty places, and a text of as many.
        self.same(shell("recipe long " + "put z a " * 78 + "rest x"), "long - long")
        self.same(shell("program long " + write_program(long_program(80))), "none")
        self.assertEqual(shell.desk()["long"], long_program(80))

    def test_exchange_and_merge(self):
        shell = shell_of(a=COPY, b=TURN)
        self.same(shell("exchange a copy 1 0"), "none")
        self.assertEqual(shell.desk()["a"], with_exchange(COPY, ("copy", 1, 0)))
        self.same(shell("merge a"), "none")
        self.assertEqual(shell.desk()["a"], COPY)
        self.same(shell("exchange b delay 1"), "none")
        self.same(shell("program c take x a1 b1 end2; either 3 4 3; done; put z a 0; put z b 0"), "c - c")
        self.same(shell("exchange c turn 1 2 0 1"), "none")
        self.assertEqual(shell.desk()["c"], with_exchange(TOSS.trimmed(), ("turn", 1, (2, 0, 1))))
        self.same([shell("exchange a copy 0 0"), shell("exchange a skip 0"), shell("exchange a turn 0 0")], ["no"] * 3)

    def test_pins(self):
        shell = shell_of(a=COPY, b=LATE, c=TURN)
        self.same([shell("pin alike b a"), shell("pin unlike a c"), shell("pin equal a a")], ["none"] * 3)
        self.assertEqual(shell.desk().pins, (("alike", "b", "a"), ("unlike", "a", "c"), ("equal", "a", COPY)))
        self.same(
            [
                shell("pin alike a c"), shell("pin unlike a b"), shell("pin equal c a"), shell("pin equal b a"),
                shell("exchange a delay 1"), shell(f"program c {write_program(LATE)}"),
                shell(f"program a {write_program(TURN)}"),
            ],
            [
                "refused alike a c", "refused unlike a b", "refused equal c", "refused equal b", "refused equal a",
                "refused unlike a c", "refused alike b a",
            ],
        )
        self.same([shell("remove a"), shell("remove c"), shell("pin alike b a"), shell("pin alike a a")], ["no"] * 4)
        self.same([shell("unpin equal a a"), shell("unpin equal a a"), shell("unpin alike a b")], ["none", "no", "no"])
        # The pin is about the program that the other name has now.
        self.same([shell("pin equal b b"), shell("unpin equal b a"), shell("unpin equal b b")], ["none", "no", "none"])
        self.same([shell("unpin alike b a"), shell("unpin unlike a c")], ["none", "none"])
        self.assertEqual(shell.desk().pins, ())

    def test_pins_of_what_is_not_there(self):
        shell = shell_of(a=COPY)
        # No pin is about names that are not there; only the program of the other name is looked for.
        self.same(
            [
                shell("pin alike a q"), shell("pin alike q a"), shell("pin unlike p q"), shell("unpin alike q a"),
                shell("pin equal a q"), shell("pin equal p q"), shell("unpin equal p q"), shell("pin equal q a"),
                shell("unpin equal q a"),
            ],
            ["no", "no", "no", "no", "unknown q", "unknown q", "unknown q", "no", "no"],
        )
        self.same(len(shell), 1)

    def test_history(self):
        shell = Shell(LINE)
        for name in ("c", "b", "a"):
            shell(f"recipe {name} {RECIPE}")
        self.same(
            [shell("undo"), shell("undo 2"), shell("redo"), shell("redo 2"), shell("undo 0"), shell("redo 0")],
            ["a a -, b a b, c a b", "b b -, c b -", "c - c", "a - a, b - a, c c a", "none", "none"],
        )
        self.same([shell("undo 4"), shell("redo"), shell("redo 1"), shell("undo " + "9" * 60)],
                  ["nothing 4", "nothing 1", "nothing 1", "nothing " + "9" * 60])
        self.same([shell("undo 3"), shell("undo"), shell("redo 3"), shell("names")],
                  ["a a -, b a -, c a -", "nothing 1", "a - a, b - a, c - a", "a b c"])
        # Commands that only ask are none of the changes.
        self.same([shell("run a ab"), shell("undo"), shell("names")], ["ab x 1", "a a -, b a b, c a b", "b c"])

    def test_questions(self):
        programs = {"a": COPY, "b": LATE, "c": TURN, "toss": TOSS, "lost": LOST, "nest": NEST}
        shell = shell_of(**programs)
        for one, other in itertools.product(programs, repeat=2):
            self.same(shell(f"compare {one} {other}"), write_apart(apart(programs[one], programs[other])))
        for name, program in programs.items():
            self.same(shell(f"show {name}"), write_program(program))
            for content in LINE.contents(3):
                found = fillings(program, content)
                rows = [f"{filling[0] or '-'} x {runs}" for filling, runs in found.items()]
                self.same(shell(f"run {name} {content[0] or '-'}"), ", ".join(rows) or "lost")
            try:
                expected = "yes" if depends(program, "z", "x") else "no"
                self.same(shell(f"depends {name} z x"), expected)
            except OverflowError:
                self.same(shell(f"depends {name} z x"), "many 20000")
        self.same(shell("names"), "a b c lost nest toss")
        self.same(shell("heads"), "a:a b:a c:c lost:lost nest:nest toss:toss")

    def test_relations(self):
        shell = Shell(LINE)
        self.same(shell("relations"), "no")
        shell(f"recipe a {RECIPE}")
        self.same(shell("relations"), "none")
        shell(f"program b {write_program(TOSS)}")
        shell(f"recipe c {RECIPE}")
        shell(f"program d {write_program(FLIP)}")
        basis = relations((COPY, TOSS, COPY, FLIP))
        self.same(shell("relations"), "; ".join(write_row(row) for row in basis))
        shell("remove d")
        self.same(shell("relations"), "1 0 -1")
        for name in "bd":
            shell(f"recipe {name} {RECIPE}")
        self.same(shell("relations"), "1 0 0 -1; 0 1 0 -1; 0 0 1 -1")

    def test_several_streams(self):
        shell = shell_of(PAIR, early=EARLY, shuffle=SHUFFLE)
        self.same(shell("run early - -"), "a x 1")
        self.same(shell("run shuffle a b"), "ab x 3, ba x 3")
        self.same([shell(f"run shuffle {words}") for words in ("a", "ab", "b a", "a b -")],
                  ["what"] * 4)
        self.same([shell("depends early z x"), shell("depends shuffle z y")], ["no", "yes"])
        bare = Shell(Streams((("x", "a"),), ()))
        self.same([bare("recipe r rest x"), bare("run r aa"), bare("recipe s take x ( end : )"), bare("run s a"),
                   bare("compare r s")], ["r - r", ". x 1", "s - s", "lost", "a > .: 1 0"])
        many = Shell(WIDE)
        self.same(many("program three " + write_program(EVERY)), "three - three")
        self.same(many("depends three s p"), "many 2")
        self.same(many("run three abcd - zz"), "- - - x 1")

    def test_names_like_commands(self):
        shell = Shell(WORDS)
        self.same(shell("recipe recipe rest names rest recipe"), "recipe - recipe")
        self.same(
            shell("program program take names a0 end1; take recipe a1 end2; done"),
            "program - program, recipe recipe program",
        )
        self.same(shell("names"), "program recipe")
        self.same(shell("depends recipe undo names"), "no")
        self.same(shell("pin equal recipe program"), "none")
        self.same(shell("remove recipe"), "no")


class TestErrors(Case):
    def answers(self, shell, answer, commands):
        """All these commands have this answer, and no effect."""
        before, many = shell.desk(), len(shell)
        for command in commands:
            self.same([command, shell(command)], [command, answer])
        self.assertEqual(shell.desk(), before)
        self.assertEqual(shell.desk().heads, before.heads)
        self.assertEqual(len(shell), many)

    def test_no_commands(self):
        shell = shell_of(a=COPY, b=TURN)
        self.answers(shell, "what", [
            "", " ", "help", "Names", "names ", " names", "names a", "heads a", "relations a", "relations ", "remove",
            "remove a b", "remove  a", "remove a ", "merge", "merge a b", "pin", "pin alike", "pin alike a",
            "pin alike a b c", "pin like a b", "pin relation a 0", "pin alike  a b", "unpin a b", "undo 1 2", "undo ",
            "redo a", "undo -1", "undo 01", "undo +1", "undo " + "9" * 61, "redo 1.5", "undo 1" + "0" * 4500, "compare",
            "compare a", "compare a b c", "run", "run a", "run a ", "run a  ab", "show", "show a b", "depends",
            "depends a z", "depends a z x x", "recipe", "recipe a", "program", "program a", "exchange", "exchange a",
            "names\n", "\nnames", "names;", "enter a x", "names, heads", "shownames", "show\na",
        ])
        for value in anything():
            if value not in ("names", "heads"):
                self.answers(shell, "what", [value])

    def test_parts_that_are_none(self):
        shell = shell_of(a=COPY, b=TURN)
        self.answers(shell, "what", [
            # Names.
            f"recipe A {RECIPE}", f"recipe end {RECIPE}", f"recipe toolongname {RECIPE}", f"recipe a1 {RECIPE}",
            "program A take x", "remove A", "remove end", "exchange A copy 1 0", "merge 0", "pin alike a B",
            "pin equal a end", "pin equal 1 a", "compare a B", "compare end a", "run A ab", "show A", "show end",
            "depends A z x", "depends end z x",
            # The names of a sink and of a source.
            "depends a x x", "depends a z z", "depends a x z", "depends a q x", "depends a z q", "depends nobody q x",
            # Recipes, texts, exchanges, and contents.
            "recipe a put z a", "recipe a rest x rest x", "recipe a put z c rest x", "recipe a each x (",
            "recipe a rest x ", "recipe a  rest x", "program a take x a1; done", "program a done", "program a take q",
            "program a take x end1;done", "program a " + "; ".join(["done"] * 90), "exchange a copy 1",
            "exchange a wait 0",
            "exchange a delay -1", "exchange a delay 01", "exchange nobody delay 01", "run a c", "run a a b", "run a .",
            "run a " + "a" * 201, "run nobody abc", "run a -a", "run a A",
        ])

    def test_unknown(self):
        shell = shell_of(a=COPY)
        self.answers(shell, "unknown q", [
            "remove q", "exchange q copy 1 0", "merge q", "compare q a", "compare a q", "compare q p", "run q ab",
            "depends q z x", "show q", "pin equal a q",
        ])
        self.answers(shell, "unknown put", ["show put"])

    def test_what_comes_first(self):
        shell = shell_of(a=COPY)
        # What is none by its form comes ahead of a name that is not there, and of too many words.
        self.answers(shell, "what", [
            "exchange q copy", "run q c", "run q a b", "compare q B", "pin equal Q q", "depends q x z", "recipe A " + (
                "put z a " * 200).strip(), "recipe a " + "put z a " * 200, "run q " + "a" * 201,
        ])
        self.answers(shell, "unknown q", ["run q " + "a" * 41])

    def test_limits(self):
        shell = shell_of(a=COPY, toss=TOSS)
        self.answers(shell, "many 400", ["recipe a " + ("put z a " * 200).strip()])
        self.answers(shell, "many 12", ["recipe a " + "choose ( | " * 13 + "put z a" + " )" * 13])
        self.answers(shell, "many 80", ["recipe a " + "put z a " * 79 + "rest x"])
        self.answers(shell, "many 40", ["run a " + "a" * 41, "run a " + "a" * 200])
        self.answers(shell, "many 2000", ["run toss " + "a" * 11])
        self.answers(shell, "many 20000", ["program b " + write_program(long_program(80))])
        for name in "bcde":
            shell(f"recipe {name} {RECIPE}")
        self.answers(shell, "many 6", [f"recipe f {RECIPE}"])
        pins = [("alike", "a", "b"), ("alike", "b", "a"), ("alike", "a", "c"), ("alike", "c", "a"), ("alike", "b", "c"),
                ("alike", "c", "b"), ("alike", "d", "a"), ("alike", "a", "d")]
        for pin in pins:
            self.same(shell(" ".join(["pin", *pin])), "none")
        self.answers(shell, "many 8", ["pin alike a e", "pin unlike a e"])
        self.answers(shell, "no", ["pin alike a b"])
        one = Shell(Streams((("x", "ab"),), (("z", "ab"),)))
        one("program long " + write_program(long_program(80)))
        self.answers(one, "many 80", ["depends long z x"])

    def test_no_effect_on_what_can_be_made_again(self):
        shell = shell_of(a=COPY)
        shell(f"recipe b {RECIPE}")
        shell("undo")
        self.answers(shell, "what", ["recipe c put z a", "names a"])
        self.answers(shell, "unknown c", ["remove c"])
        self.answers(shell, "no", ["exchange a skip 0"])
        self.answers(shell, "nothing 2", ["redo 2", "undo 2"])
        self.same([shell("names"), shell("heads"), shell("redo")], ["a", "a:a", "b - a"])


class TestShell(Case):
    def test_twin(self):
        shell = shell_of(a=COPY)
        desk = shell.desk()
        self.assertIsInstance(desk, Desk)
        desk.remove("a")
        self.same([shell("names"), shell.desk().undo()], ["a", (("a", "a", ""),)])
        self.same(shell("undo"), "a a -")
        # The histories are those of the shell.
        self.same(shell.desk().redo(), (("a", "", "a"),))
        self.same(shell("redo"), "a - a")

    def test_count(self):
        shell = Shell(LINE)
        self.same([len(shell), str(shell)], [0, "shell of 0 commands"])
        for command, many in (("names", 1), ("what", 1), ("show a", 1), (None, 1), ("undo", 1), ("undo 0", 2),
                              (f"recipe a {RECIPE}", 3), ("pin alike a a", 3), ("run a c", 3), ("heads", 4),
                              ("recipe b take x ( end : )", 5), ("run b a", 6), ("relations", 7), ("compare a b", 8)):
            shell(command)
            self.same([command, len(shell), str(shell)], [command, many, f"shell of {many} commands"])

    def test_empty(self):
        self.assertEqual(Shell(PAIR).desk(), Desk(PAIR))

    def test_random(self):
        # Each change of the shell is that of a desk.
        pick = random.Random(6)
        shell, desk = Shell(LINE), Desk(LINE)
        recipes = [RECIPE, "each x ( a : put z b , b : put z a )", "rest x", "put z a rest x"]
        for _ in range(150):
            name = pick.choice("abcd")
            text = pick.choice(recipes)
            kind = pick.randrange(4)
            if kind == 0:
                told = desk.enter(name, read_recipe(LINE, text))
                answer = shell(f"recipe {name} {text}")
            elif kind == 1 and name in desk:
                told, answer = desk.remove(name), shell(f"remove {name}")
            elif kind == 2 and name in desk:
                told, answer = desk.merge(name), shell(f"merge {name}")
                self.assertEqual(desk[name], merged(desk[name]))
            else:
                told, answer = desk.undo(many=0), shell("undo 0")
            rows = [f"{one} {old or '-'} {new or '-'}" for one, old, new in told]
            self.same(answer, ", ".join(rows) or "none")
            self.assertEqual(shell.desk(), desk)

    def test_refused(self):
        for value in but():
            if not isinstance(value, Streams):
                self.refused(InvalidStreams, Shell, value)
        self.assertEqual(len(Program.nothing(LINE)), 1)


if __name__ == "__main__":
    unittest.main()
