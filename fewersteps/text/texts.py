"""Texts of programs, contents, exchanges, relations and differences, written and read."""

from fewersteps.base.streams import are_letters, check_streams, is_sign
from fewersteps.base.values import MAX_INTEGER, is_between, is_integer
from fewersteps.books.places import MAX_WAYS, is_right
from fewersteps.books.program import MAX_PLACES, check_program, made_program
from fewersteps.errors import InvalidContent, InvalidOperation, ParseError
from fewersteps.text.digits import MAX_DIGITS, are_digits, is_natural, is_whole

MAX_WRITTEN_WORDS = 3

# How many numbers stand in an exchange; a turn has one, and those of its order.
NUMBERS = {"advance": 1, "copy": 2, "cross": 1, "delay": 1, "flat": 2, "join": 2, "skip": 1, "swap": 1}


def write_program(program):
    """The text of a program."""
    check_program(program)
    return "; ".join([_place_text(place) for place in program.places])


def _place_text(place):
    """The text of a place."""
    if place[0] == "take":
        return " ".join(["take", place[1]] + [f"{step}{to}" for step, to in place[2].items()])
    if place[0] == "either":
        return " ".join(["either"] + [str(to) for to in place[1]])
    return " ".join([str(part) for part in place])


def read_program(streams, text):
    """The program with this text."""
    check_streams(streams)
    if not isinstance(text, str):
        raise ParseError(None)
    places = []
    for at, piece in enumerate(text.split("; ")):
        place = _read_place(streams, piece.split(" "))
        if place is None:
            raise ParseError(at)
        places.append(place)
    if not is_right(streams, tuple(places), MAX_PLACES):
        raise ParseError(None)
    return made_program(streams, places)


def _read_place(streams, words):
    """The place whose text has these words, or None."""
    if words[0] == "take":
        return _read_take(streams, words)
    if words[0] == "put":
        return _read_put(streams, words)
    if words[0] == "either" and 1 <= len(words) - 1 <= MAX_WAYS and all([are_digits(word) for word in words[1:]]):
        return ("either", tuple([_place_number(word) for word in words[1:]]))
    return ("done",) if words == ["done"] else None


def _read_take(streams, words):
    """The take place whose text has these words, or None."""
    if len(words) < 2 or words[1] not in streams or not streams.is_source(words[1]):
        return None
    moves = {}
    for word in words[2:]:
        length = len("end") if word.startswith("end") else 1
        if not are_digits(word[length:]):
            return None
        moves[word[:length]] = _place_number(word[length:])
    steps = [step for step in (*streams.signs_of(words[1]), "end") if step in moves]
    # The moves have to stand in this order, each once, and there are no others.
    if len(words) - 2 != len(steps) or list(moves) != steps:
        return None
    return ("take", words[1], moves)


def _read_put(streams, words):
    """The put place whose text has these words, or None."""
    if len(words) != 4 or words[1] not in streams or streams.is_source(words[1]):
        return None
    if not is_sign(streams.signs_of(words[1]), words[2]) or not are_digits(words[3]):
        return None
    return ("put", words[1], words[2], _place_number(words[3]))


def _place_number(digits):
    """The number with these digits, or another one that is too great for a place as well."""
    return int(digits[:MAX_DIGITS])


def write_words(words):
    """The text of a content or a filling."""
    if not _are_words(words, 0):
        raise InvalidContent("these are not a tuple of at most three words")
    return _words_text(words)


def _are_words(value, fewest):
    """Whether the value is a tuple of as many words as a content or a filling can have."""
    if not isinstance(value, tuple) or not fewest <= len(value) <= MAX_WRITTEN_WORDS:
        return False
    return all([isinstance(word, str) and are_letters(word) for word in value])


def _words_text(words):
    """The text of these words."""
    return " ".join([word if word else "-" for word in words]) if words else "."


def read_words(text):
    """The content or the filling with this text."""
    words = _words_of(text) if isinstance(text, str) else None
    if words is None:
        raise ParseError(None)
    return words


def _words_of(text):
    """The words with this text, or None."""
    if text == ".":
        return ()
    words = tuple(["" if word == "-" else word for word in text.split(" ")])
    # An empty word is written as a sign, so that each text belongs to just one tuple of words.
    return words if _are_words(words, 1) and _words_text(words) == text else None


def write_exchange(exchange):
    """The text of an exchange."""
    if not _is_exchange(exchange):
        raise InvalidOperation("this does not have the form of an exchange")
    numbers = (exchange[1], *exchange[2]) if exchange[0] == "turn" else exchange[1:]
    return " ".join([exchange[0]] + [str(number) for number in numbers])


def _is_exchange(value):
    """Whether the value has the form of an exchange."""
    if not isinstance(value, tuple) or len(value) == 0 or not isinstance(value[0], str):
        return False
    if value[0] == "turn":
        return len(value) == 3 and isinstance(value[2], tuple) and _are_naturals(value[1:2]) and _are_naturals(value[2])
    return value[0] in NUMBERS and len(value) - 1 == NUMBERS[value[0]] and _are_naturals(value[1:])


def _are_naturals(value):
    """Whether the tuple has at least one integer of at least 0, and nothing else."""
    return len(value) > 0 and all([is_between(number, 0, MAX_INTEGER) for number in value])


def read_exchange(text):
    """The exchange with this text."""
    words = text.split(" ") if isinstance(text, str) else []
    if not words or not all([is_natural(word) for word in words[1:]]):
        raise ParseError(None)
    numbers = tuple([int(word) for word in words[1:]])
    exchange = (words[0], numbers[0], numbers[1:]) if words[0] == "turn" and numbers else (words[0], *numbers)
    if not _is_exchange(exchange):
        raise ParseError(None)
    return exchange


def write_row(row):
    """The text of a relation."""
    if not isinstance(row, tuple) or len(row) == 0 or not all([is_integer(factor) for factor in row]):
        raise InvalidOperation("this is not a tuple of integers")
    return " ".join([str(factor) for factor in row])


def read_row(text):
    """The relation with this text."""
    row = _row_of(text) if isinstance(text, str) else None
    if row is None:
        raise ParseError(None)
    return row


def _row_of(text):
    """The integers with this text, or None."""
    words = text.split(" ")
    return tuple([int(word) for word in words]) if all([is_whole(word) for word in words]) else None


def write_apart(value):
    """The text of a difference of two programs, or of None."""
    if value is None:
        return "alike"
    if not _is_apart(value):
        raise InvalidOperation("this does not have the form of a difference of two programs")
    content, filling, one, other = value
    return f"{_words_text(content)} > {_words_text(filling)}: {one} {other}"


def _is_apart(value):
    """Whether the value has the form of a difference of two programs."""
    if not isinstance(value, tuple) or len(value) != 4:
        return False
    return _are_words(value[0], 1) and _are_words(value[1], 0) and all([is_integer(number) for number in value[2:]])


def read_apart(text):
    """The difference of two programs with this text, or None."""
    if text == "alike":
        return None
    value = _apart_of(text) if isinstance(text, str) else None
    if value is None:
        raise ParseError(None)
    return value


def _apart_of(text):
    """The difference with this text, or None."""
    content, _, behind = text.partition(" > ")
    filling, _, numbers = behind.partition(": ")
    value = (_words_of(content), _words_of(filling), *(_row_of(numbers) or ()))
    return value if _is_apart(value) else None
