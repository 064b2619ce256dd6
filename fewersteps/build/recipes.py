"""Recipes: programs that are written as texts of statements."""

from fewersteps.base.streams import check_streams
from fewersteps.base.values import is_between
from fewersteps.books.places import is_right
from fewersteps.books.program import made_program
from fewersteps.build.statements import read_statements
from fewersteps.errors import InvalidNumber, InvalidProgram, ParseError, TooMany

MAX_WORDS = 400
MAX_DEPTH = 12


def read_recipe(streams, text):
    """The program of a recipe."""
    check_streams(streams)
    return _made(streams, _read(streams, text))


def _read(streams, text):
    """The reader that has read the words of a recipe; ParseError if it is none."""
    if not isinstance(text, str):
        raise ParseError(None)
    # A text without any sign has no words, not an empty one.
    return read_statements(streams, text.split(" ") if text else [])


def _made(streams, reader):
    """The program of a recipe that was read."""
    if len(reader.words) > MAX_WORDS:
        raise TooMany(MAX_WORDS)
    if reader.deepest > MAX_DEPTH:
        raise TooMany(MAX_DEPTH)
    places = _places_of(streams, reader)
    if not is_right(streams, places, len(places)):
        raise InvalidProgram("the places of the recipe are not those of a right program")
    return made_program(streams, places).ordered()


def _places_of(streams, reader):
    """The places of a recipe: one for each statement, and a done place behind them."""
    done = len(reader.statements)
    places = [("done",) for _ in range(done + 1)]
    waiting = [(reader.top.numbers, done)]
    while waiting:
        numbers, last = waiting.pop()
        for number, behind in zip(numbers, numbers[1:] + [last]):
            statement = reader.statements[number]
            inner = number if statement.kind == "each" else behind
            entries = [part.numbers[0] if part.numbers else inner for part in statement.parts]
            places[number] = _place_of(streams, statement, entries, (number, behind))
            waiting.extend([(part.numbers, inner) for part in statement.parts])
    return tuple(places)


def _place_of(streams, statement, entries, numbers):
    """The place of a statement, with the places of its parts, its own number and that of the place behind it."""
    own, behind = numbers
    if statement.kind == "put":
        return ("put", statement.name, statement.sign, behind)
    if statement.kind == "choose":
        return ("either", tuple(entries))
    moves = {part.label: entry for part, entry in zip(statement.parts, entries)}
    if statement.kind == "rest":
        moves = {sign: own for sign in streams.signs_of(statement.name)}
    if statement.kind != "take":
        moves["end"] = behind
    return ("take", statement.name, moves)


def is_recipe(streams, value):
    """Whether the value is a text of which a program can be read."""
    try:
        read_recipe(streams, value)
    except (ParseError, TooMany, InvalidProgram):
        return False
    return True


def unrolled(streams, text, index):
    """The recipe in which the `each` that begins at the word with this index stands as a `take`."""
    check_streams(streams)
    reader = _read(streams, text)
    found = [statement for statement in reader.statements if statement.kind == "each" and statement.begins == index]
    if not found or not is_between(index, 0, len(reader.words)):
        raise InvalidNumber(index)
    _made(streams, reader)
    made = " ".join(_unrolled_words(reader.words, found[0]))
    read_recipe(streams, made)
    return made


def _unrolled_words(words, each):
    """The words of the recipe with this `each` unrolled once."""
    whole = words[each.begins:each.stops]
    made = words[:each.begins] + ["take", each.name, "("]
    for part in each.parts:
        made = made + [part.label, ":"] + words[part.begins:part.stops] + whole + [","]
    return made + ["end", ":", ")"] + words[each.stops:]
