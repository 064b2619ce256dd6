"""The shell: a desk that is used by commands in texts, and answers in texts."""

from fewersteps.base.streams import check_content, is_name
from fewersteps.build.recipes import read_recipe
from fewersteps.desk.desk import Desk
from fewersteps.desk.pins import names_of
from fewersteps.errors import InvalidContent, InvalidOperation, InvalidProgram, NothingToUndo, ParseError, Refused
from fewersteps.errors import TooMany, UnknownName
from fewersteps.text.digits import is_natural
from fewersteps.text.texts import read_exchange, read_program, read_words, write_apart, write_program, write_row
from fewersteps.text.texts import write_words
from fewersteps.use.depends import depends


def _check_form(holds):
    """Raise ParseError if something does not hold that holds for the words of each command."""
    if not holds:
        raise ParseError(None)


def _check_names(words, many):
    """Raise ParseError if these words are not so many names."""
    _check_form(len(words) == many and all([is_name(word) for word in words]))


def _told(texts, between):
    """The texts with this between them, or `none` without any."""
    return between.join(texts) if texts else "none"


def _news(news):
    """The text of news."""
    return _told([" ".join([word if word else "-" for word in row]) for row in news], ", ")


def _recipe(desk, words):
    """Enter the program of a recipe."""
    _check_names(words[:1], 1)
    return _news(desk.enter(words[0], read_recipe(desk.streams, " ".join(words[1:]))))


def _program(desk, words):
    """Enter the program with a text."""
    _check_names(words[:1], 1)
    return _news(desk.enter(words[0], read_program(desk.streams, " ".join(words[1:]))))


def _remove(desk, words):
    """Remove a program."""
    _check_names(words, 1)
    return _news(desk.remove(words[0]))


def _exchange(desk, words):
    """Replace a program by that behind an exchange."""
    _check_names(words[:1], 1)
    return _news(desk.exchange(words[0], read_exchange(" ".join(words[1:]))))


def _merge(desk, words):
    """Replace a program by the merged one."""
    _check_names(words, 1)
    return _news(desk.merge(words[0]))


def _pin_of(desk, words):
    """The pin with these words."""
    _check_form(len(words) == 3 and words[0] in ("alike", "unlike", "equal"))
    _check_names(words[1:], 2)
    return (words[0], words[1], desk[words[2]] if words[0] == "equal" else words[2])


def _pin_text(pin):
    """The text of a pin, without the program of one with `equal`."""
    return " ".join([pin[0], *names_of(pin)])


def _pin(desk, words):
    """Add a pin."""
    return _news(desk.pin(_pin_of(desk, words)))


def _unpin(desk, words):
    """Take a pin away."""
    return _news(desk.unpin(_pin_of(desk, words)))


def _many_of(words):
    """How many changes these words ask for."""
    _check_form(len(words) <= 1 and all([is_natural(word) for word in words]))
    return int(words[0]) if words else 1


def _undo(desk, words):
    """Take changes back."""
    return _news(desk.undo(many=_many_of(words)))


def _redo(desk, words):
    """Make changes again."""
    return _news(desk.redo(many=_many_of(words)))


def _compare(desk, words):
    """Compare two programs."""
    _check_names(words, 2)
    return write_apart(desk.compare(words[0], words[1]))


def _relations(desk, words):
    """Find the relations between all programs."""
    _check_names(words, 0)
    return _told([write_row(row) for row in desk.relations()], "; ")


def _run(desk, words):
    """Find what a program puts for a content."""
    _check_names(words[:1], 1)
    content = read_words(" ".join(words[1:]))
    check_content(desk.streams, content)
    found = desk.run(words[0], content)
    return ", ".join([f"{write_words(filling)} x {runs}" for filling, runs in found.items()]) if found else "lost"


def _depends(desk, words):
    """Find whether a sink of a program depends on a source."""
    _check_names(words, 3)
    name, sink, source = words
    streams = desk.streams
    _check_form(sink in streams and source in streams)
    _check_form(streams.is_source(source) and not streams.is_source(sink))
    return "yes" if depends(desk[name], sink, source) else "no"


def _show(desk, words):
    """Tell the text of a program."""
    _check_names(words, 1)
    return write_program(desk[words[0]])


def _names(desk, words):
    """Tell all names."""
    _check_names(words, 0)
    return _told(list(desk), " ")


def _heads(desk, words):
    """Tell all names and heads."""
    _check_names(words, 0)
    return _told([f"{name}:{head}" for name, head in desk.heads.items()], " ")


COMMANDS = {
    "recipe": _recipe, "program": _program, "remove": _remove, "exchange": _exchange, "merge": _merge, "pin": _pin,
    "unpin": _unpin, "undo": _undo, "redo": _redo, "compare": _compare, "relations": _relations, "run": _run,
    "depends": _depends, "show": _show, "names": _names, "heads": _heads,
}


def _answer(desk, command):
    """The answer to a command; what is wrong with the text itself is a ParseError or another StepError."""
    _check_form(isinstance(command, str))
    words = command.split(" ")
    _check_form(words[0] in COMMANDS)
    action = COMMANDS[words[0]]
    return action(desk, words[1:])


class Shell:
    """A desk for these streams that is used by commands."""

    def __init__(self, streams):
        self._desk = Desk(streams)
        self._answered = []

    def __call__(self, command):
        try:
            answer = _answer(self._desk, command)
        except (ParseError, InvalidProgram, InvalidContent):
            return "what"
        except UnknownName as unknown:
            return f"unknown {unknown.wanted}"
        except Refused as refused:
            return f"refused {_pin_text(refused.claim)}"
        except TooMany as many:
            return f"many {many.limit}"
        except NothingToUndo as nothing:
            return f"nothing {nothing.many}"
        except InvalidOperation:
            return "no"
        self._answered.append(command)
        return answer

    def desk(self):
        """A twin of the desk."""
        return self._desk.twin()

    def __len__(self):
        return len(self._answered)

    def __str__(self):
        return f"shell of {len(self._answered)} commands"
