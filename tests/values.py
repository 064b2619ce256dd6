"""Values that the tests share: streams and programs, and wrong values of all kinds that callers may pass."""

from fewersteps.algebra.bags import Bag
from fewersteps.base.streams import Streams
from fewersteps.books.program import Program, made_program
from fewersteps.books.runs import Feeder, Run
from fewersteps.build.rules import Rule
from fewersteps.desk.desk import Desk
from fewersteps.text.shell import Shell

LINE = Streams((("x", "ab"),), (("z", "ab"),))
COPY = Program(
    LINE,
    (("take", "x", {"a": 1, "b": 2, "end": 3}), ("put", "z", "a", 0), ("put", "z", "b", 0), ("done",)),
)
PAIR = Streams((("x", "a"), ("y", "b")), (("z", "ab"),))
BARE = Streams((("x", "a"),), ())
WIDE = Streams((("p", "abcd"), ("q", "ab"), ("r", "z")), (("s", "a"), ("t", "abcd"), ("u", "bcd")))
TOSS = Program(
    LINE,
    (
        ("take", "x", {"a": 1, "b": 1, "end": 4}), ("either", (2, 3, 2)), ("put", "z", "a", 0), ("put", "z", "b", 0),
        ("done",),
    ),
)
FLIP = TOSS.exchanged("z", "a", "b")
LATE = Program(
    LINE,
    (
        ("take", "x", {"a": 1, "b": 2, "end": 7}), ("take", "x", {"a": 3, "b": 4, "end": 5}),
        ("take", "x", {"a": 8, "b": 9, "end": 6}), ("put", "z", "a", 1), ("put", "z", "a", 2), ("put", "z", "a", 7),
        ("put", "z", "b", 7), ("done",), ("put", "z", "b", 1), ("put", "z", "b", 2),
    ),
)
EARLY = Program(
    PAIR,
    (("put", "z", "a", 1), ("take", "x", {"a": 1, "end": 2}), ("take", "y", {"b": 2, "end": 3}), ("done",)),
)
# It puts the signs of both sources in any order that it likes.
SHUFFLE = Program(
    PAIR,
    (
        ("either", (1, 2)), ("take", "x", {"a": 3, "end": 4}), ("take", "y", {"b": 5, "end": 6}), ("put", "z", "a", 0),
        ("take", "y", {"b": 7, "end": 9}), ("put", "z", "b", 0), ("take", "x", {"a": 8, "end": 9}),
        ("put", "z", "b", 4), ("put", "z", "a", 6), ("done",),
    ),
)
# Places 4 and 5 are of no use, and the places are in another order than the plain one.
LOOSE = Program(
    PAIR,
    (
        ("either", (5, 3, 1)), ("take", "y", {"b": 1, "end": 6}), ("done",), ("put", "z", "b", 1),
        ("take", "y", {"b": 5}), ("put", "z", "a", 4), ("take", "x", {"a": 6, "end": 2}),
    ),
)
LOST = Program(LINE, (("take", "x", {"a": 1, "b": 1}), ("put", "z", "a", 0)))
# Either places that lead to each other, one of them twice, and one to places of no use alone.
NEST = Program(
    LINE,
    (
        ("either", (1, 2, 1, 5)), ("either", (2, 2, 3)), ("put", "z", "a", 3), ("take", "x", {"a": 1, "end": 4}),
        ("done",), ("either", (6,)), ("take", "x", {"b": 6}),
    ),
)
EVERY = Program.reading(WIDE)
THREE = Program(
    WIDE,
    (
        ("take", "p", {"a": 1, "d": 3, "end": 4}), ("put", "s", "a", 2), ("take", "q", {"b": 0, "end": 6}),
        ("put", "t", "c", 0), ("take", "q", {"a": 4, "end": 5}), ("take", "r", {"z": 5, "end": 8}),
        ("take", "p", {"b": 7, "end": 5}), ("put", "u", "d", 6), ("done",),
    ),
)
SOUND = Program(BARE, (("take", "x", {"a": 1, "end": 2}), ("either", (0, 0, 0)), ("done",)))
PROGRAMS = (COPY, TOSS, FLIP, LATE, EARLY, SHUFFLE, LOOSE, LOST, NEST, EVERY, THREE, SOUND, Program.nothing(PAIR))


def deep(value):
    """The value, eight tuples, lists and dicts deep."""
    for wrap in (lambda v: (v,), lambda v: [v], lambda v: {"a": v}) * 2 + (lambda v: (v, v), lambda v: [v]):
        value = wrap(value)
    return value


def numbers():
    """Integers that are small, negative, of sixty digits, and of more."""
    return [0, 1, 2, 3, -1, -2, 24, 25, 40, 41, 80, 81, 10 ** 59, 10 ** 60 - 1, 10 ** 60, 10 ** 99, -(10 ** 99)]


def strings():
    """Strings of printable characters and newlines."""
    return ["", "a", "b", "ab", "x", "z", "end", "take", "done", "0", "A", " ", "~", "\n", "a\n", "q" * 9000]


def tuples():
    """Tuples, some of them nested deeply."""
    return [(), (0,), (None,), ("a",), ("x", "ab"), (("x", "ab"),), ("done",), (("done",),), (("",),), deep(1)]


def lists():
    """Lists."""
    return [[], [0], ["a"], ["x", "ab"], [("x", "ab")], ["done"], [("done",)], deep([])]


def dicts():
    """Dicts."""
    return [{}, {0: 0}, {"a": 0}, {"end": 0}, {"x": "x"}, {"x": "ab"}, {"x": "x", "z": "x"}, {True: 1, None: ()}]


def objects():
    """Objects of the package."""
    bags = [Bag.of(TOSS), Bag.none(LINE), (Bag.of(COPY), 1)]
    others = [Rule.counting("cd", "c", 2, 0), Run(COPY, ("a",)), Feeder(COPY), Desk(LINE), Shell(PAIR)]
    kept = [[others[0]], {"z": others[4]}, ("alike", others[2], others[3])]
    return [
        LINE, PAIR, COPY, Program.nothing(PAIR), (LINE, COPY), [COPY], {"a": LINE}, ((COPY, True),),
        *bags, *others, *kept,
    ]


def anything():
    """Values of all these kinds, and True, False and None."""
    values = [True, False, None]
    for kind in (numbers, strings, tuples, lists, dicts, objects):
        values.extend(kind())
    return values


def but(*right):
    """Values of all these kinds that are none of the right ones; True and False are not 1 and 0."""
    kept = []
    for value in anything():
        if not any(type(value) is type(good) and value == good for good in right):
            kept.append(value)
    return kept


def chain(many):
    """The places, for LINE, of a program with so many places, at least two: it puts signs, and is done at last."""
    puts = tuple(("put", "z", "ab"[at % 2], at + 1) for at in range(1, many - 1))
    return (("take", "x", {"end": 1}),) + puts + (("done",),)


def long_program(many):
    """A program of LINE with so many places, as the package can make it, but nobody can write it."""
    return made_program(LINE, chain(many))


def ways_program(many):
    """A program of BARE with so many runs, all with one step."""
    digits = []
    while many:
        digits.append(many % 3)
        many //= 3
    # Each either place leads three times to the next one, and has its digit's number of ways straight to the take.
    take = len(digits)
    places = []
    for at in range(take - 1):
        places.append(("either", (at + 1,) * 3 + ((take + 2 + at,) if digits[at] else ())))
    places.append(("either", (take,) * digits[-1]))
    places.extend([("take", "x", {"end": take + 1}), ("done",)])
    places.extend(("either", (take,) * max(digit, 1)) for digit in digits[:-1])
    used = {to for place in places if place[0] == "either" for to in place[1]} | {0, take + 1}
    numbers = {old: new for new, old in enumerate(sorted(used))}
    rows = []
    for at in sorted(used):
        if places[at][0] == "either":
            rows.append(("either", tuple(numbers[to] for to in places[at][1])))
        else:
            rows.append(("take", "x", {"end": numbers[take + 1]}) if at == take else ("done",))
    return Program(BARE, tuple(rows))
