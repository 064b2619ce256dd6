"""How the words of a recipe form statements."""

from fewersteps.books.places import MAX_WAYS
from fewersteps.errors import ParseError

MIN_WAYS = 2


def read_statements(streams, words):
    """The reader that has read all these words; ParseError if they form no statements for these streams."""
    reader = Reader(streams, words)
    while reader.at < len(words):
        reader.read_on()
    if reader.waiting:
        raise ParseError(len(words))
    return reader


class Statement:
    """A statement: its kind, stream and sign, where its words begin and stop, and the parts in its parentheses."""

    def __init__(self, kind, begins):
        self.kind = kind
        self.name = None
        self.sign = None
        self.begins = begins
        self.stops = None
        self.parts = []


class Part:
    """Statements one behind the other, by their numbers: their label, and where their words begin and stop."""

    def __init__(self, label, begins):
        self.label = label
        self.begins = begins
        self.stops = None
        self.numbers = []


class Reader:
    """It reads words, from the first one to the last one, as statements for these streams."""

    def __init__(self, streams, words):
        self._signs = {name: [*signs] for name, signs in streams.sources + streams.sinks}
        self._sources = [name for name, signs in streams.sources]
        self._sinks = [name for name, signs in streams.sinks]
        # Without sinks no recipe has a put.
        self._kinds = ["take", "each", "rest", "choose"] + (["put"] if self._sinks else [])
        self.words = words
        self.at = 0
        self.statements = []
        self.top = Part(None, 0)
        self.waiting = []
        self.deepest = 0

    def read_on(self):
        """Read a statement as far as the statements in its parentheses, or what follows such statements."""
        if self.words[self.at] in self._kinds:
            self._begin(self._next_of(self._kinds))
        elif self.waiting:
            self._end_part(self.waiting[-1])
        else:
            raise ParseError(self.at)

    def _next_of(self, wanted):
        """Read the next word, which is one of the wanted ones."""
        at = self.at
        if at == len(self.words) or self.words[at] not in wanted:
            raise ParseError(at)
        self.at = at + 1
        return self.words[at]

    def _begin(self, kind):
        """Read what stands behind the first word of a statement, as far as the statements in its parentheses."""
        statement = Statement(kind, self.at - 1)
        part = self.waiting[-1].parts[-1] if self.waiting else self.top
        part.numbers.append(len(self.statements))
        self.statements.append(statement)
        if kind == "put":
            statement.name = self._next_of(self._sinks)
            statement.sign = self._next_of(self._signs[statement.name])
        elif kind != "choose":
            statement.name = self._next_of(self._sources)
        if kind in ("put", "rest"):
            statement.stops = self.at
        else:
            self._next_of(["("])
            self.waiting.append(statement)
            self.deepest = max(self.deepest, len(self.waiting))
            self._begin_part(statement)

    def _begin_part(self, statement):
        """Read what stands ahead of the next statements in the parentheses."""
        label = None
        if statement.kind != "choose":
            label = self._next_of(self._labels_left(statement))
            self._next_of([":"])
        statement.parts.append(Part(label, self.at))

    def _labels_left(self, statement):
        """The signs, and perhaps the end, that a take or an each does not list so far."""
        labels = self._signs[statement.name] + (["end"] if statement.kind == "take" else [])
        listed = [part.label for part in statement.parts]
        return [label for label in labels if label not in listed]

    def _end_part(self, statement):
        """Read what stands behind statements in the parentheses."""
        statement.parts[-1].stops = self.at
        if self._next_of(self._followers(statement)) == ")":
            statement.stops = self.at
            self.waiting.pop()
        else:
            self._begin_part(statement)

    def _followers(self, statement):
        """The words that can stand behind the last part that was read."""
        if statement.kind != "choose":
            return [")", ","] if self._labels_left(statement) else [")"]
        many = len(statement.parts)
        return ([")"] if many >= MIN_WAYS else []) + (["|"] if many < MAX_WAYS else [])
