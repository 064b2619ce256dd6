"""Values that the tests share: streams and programs, and wrong values of all kinds that callers may pass."""

from fewersteps.base.streams import Streams
from fewersteps.books.program import Program

LINE = Streams((("x", "ab"),), (("z", "ab"),))
COPY = Program(
    LINE,
    (("take", "x", {"a": 1, "b": 2, "end": 3}), ("put", "z", "a", 0), ("put", "z", "b", 0), ("done",)),
)
PAIR = Streams((("x", "a"), ("y", "b")), (("z", "ab"),))
BARE = Streams((("x", "a"),), ())
WIDE = Streams((("p", "abcd"), ("q", "ab"), ("r", "z")), (("s", "a"), ("t", "abcd"), ("u", "bcd")))


def deep(value):
    """The value, eight tuples, lists and dicts deep."""
    for wrap in (lambda v: (v,), lambda v: [v], lambda v: {"a": v}) * 2 + (lambda v: (v, v), lambda v: [v]):
        value = wrap(value)
    return value


def numbers():
    """Integers that are small, negative, of sixty digits, and of more."""
    return [0, 1, 2, 3, -1, -2, 24, 25, 40, 41, 80, 81, 10 ** 59, 10 ** 60 - 1, 10 ** 60, 10 ** 99, -(10 ** 99)]


def strings():
    """Strings of printable characters and newlines."""
    return ["", "a", "b", "ab", "x", "z", "end", "take", "done", "0", "A", " ", "~", "\n", "a\n", "q" * 9000]


def tuples():
    """Tuples, some of them nested deeply."""
    return [(), (0,), (None,), ("a",), ("x", "ab"), (("x", "ab"),), ("done",), (("done",),), (("",),), deep(1)]


def lists():
    """Lists."""
    return [[], [0], ["a"], ["x", "ab"], [("x", "ab")], ["done"], [("done",)], deep([])]


def dicts():
    """Dicts."""
    return [{}, {0: 0}, {"a": 0}, {"end": 0}, {"x": "x"}, {"x": "ab"}, {"x": "x", "z": "x"}, {True: 1, None: ()}]


def objects():
    """Objects of the package."""
    return [LINE, PAIR, COPY, Program.nothing(PAIR), (LINE, COPY), [COPY], {"a": LINE}]


def anything():
    """Values of all these kinds, and True, False and None."""
    values = [True, False, None]
    for kind in (numbers, strings, tuples, lists, dicts, objects):
        values.extend(kind())
    return values


def but(*right):
    """Values of all these kinds that are none of the right ones; True and False are not 1 and 0."""
    kept = []
    for value in anything():
        if not any(type(value) is type(good) and value == good for good in right):
            kept.append(value)
    return kept


def chain(many):
    """The places, for LINE, of a program with so many places, at least two: it puts signs, and is done at last."""
    puts = tuple(("put", "z", "ab"[at % 2], at + 1) for at in range(1, many - 1))
    return (("take", "x", {"end": 1}),) + puts + (("done",),)
