"""Names, signs and words, and the streams that programs take signs from and put signs to."""

from fewersteps.base.values import check_number
from fewersteps.errors import InvalidContent, InvalidOperation, InvalidStreams, UnknownName

MAX_WORD = 200

MAX_NAME = 8
MAX_SIGNS = 4
MAX_KIND = 3
MAX_LISTED = 40


def is_name(value):
    """Whether the value is a name of a stream."""
    if not isinstance(value, str) or not 1 <= len(value) <= MAX_NAME:
        return False
    return are_letters(value) and value != "end"


def is_signs(value):
    """Whether the value is the signs of a stream."""
    if not isinstance(value, str) or not 1 <= len(value) <= MAX_SIGNS:
        return False
    return are_letters(value) and all([low < high for low, high in zip(value, value[1:])])


def is_sign(signs, value):
    """Whether the value is one of the signs."""
    # The empty string, and strings of several signs, are also found in a string of signs.
    return isinstance(value, str) and len(value) == 1 and value in signs


def is_word(signs, value):
    """Whether the value is a word, of any length, of these signs."""
    return isinstance(value, str) and all([sign in signs for sign in value])


def is_pair(streams, value):
    """Whether the value is a pair of a content and a filling, with words of any length."""
    if not isinstance(value, tuple) or len(value) != 2:
        return False
    return streams.is_content(value[0]) and streams.is_filling(value[1])


def check_streams(value):
    """Raise InvalidStreams if the value is no streams."""
    if not isinstance(value, Streams):
        raise InvalidStreams("these are no streams")


def check_source(streams, name):
    """Raise UnknownName if this is no name of a source."""
    if not streams.is_source(name):
        raise UnknownName(name)


def check_sink(streams, name):
    """Raise UnknownName if this is no name of a sink."""
    if streams.is_source(name):
        raise UnknownName(name)


def check_content(streams, value):
    """Raise InvalidContent if the value is no content that can be passed alone."""
    if not streams.is_content(value) or not _are_short(value):
        raise InvalidContent("a content has a word of each source, with at most 200 signs")


def check_filling(streams, value):
    """Raise InvalidContent if the value is no filling that can be passed alone."""
    if not streams.is_filling(value) or not _are_short(value):
        raise InvalidContent("a filling has a word of each sink, with at most 200 signs")


def _are_short(words):
    """Whether all words are short enough to be passed alone."""
    return all([len(word) <= MAX_WORD for word in words])


def are_letters(text):
    """Whether the text has letters from a to z alone."""
    return all(["a" <= letter <= "z" for letter in text])


def _is_stream(value):
    """Whether the value is a pair of a name and signs."""
    return isinstance(value, tuple) and len(value) == 2 and is_name(value[0]) and is_signs(value[1])


def _are_kind(value, fewest):
    """Whether the value is a tuple of as many streams as there can be of a kind."""
    if not isinstance(value, tuple) or not fewest <= len(value) <= MAX_KIND:
        return False
    return all([_is_stream(pair) for pair in value])


def _are_streams(sources, sinks):
    """Whether these are the sources and the sinks of streams."""
    if not _are_kind(sources, 1) or not _are_kind(sinks, 0):
        return False
    names = [pair[0] for pair in sources + sinks]
    return len(set(names)) == len(names)


def _are_words(kind, value):
    """Whether the value is a tuple with a word of each of the streams of a kind."""
    if not isinstance(value, tuple) or len(value) != len(kind):
        return False
    return all([is_word(pair[1], word) for pair, word in zip(kind, value)])


def _told(sources, sinks):
    """The words of the text of streams."""
    words = [f"{name}:{signs}" for name, signs in sources]
    words.append(">")
    words.extend([f"{name}:{signs}" for name, signs in sinks])
    return words


def _contents_from(alphabets, word, many):
    """All contents with these signs whose first word begins so, and with so many signs behind that, ascending."""
    if len(alphabets) > 1:
        others = alphabets[1:]
        for rest in _contents_from(others, "", many):
            yield (word, *rest)
    elif many == 0:
        yield (word,)
    if many > 0:
        for sign in alphabets[0]:
            longer = word + sign
            fewer = many - 1
            yield from _contents_from(alphabets, longer, fewer)


class Streams:
    """One to three sources and no to three sinks, each with a name and signs; they never change."""

    def __init__(self, sources, sinks):
        if not _are_streams(sources, sinks):
            raise InvalidStreams("streams are one to three sources and no to three sinks with different names")
        self._sources = sources
        self._sinks = sinks
        self._names = tuple([pair[0] for pair in sources + sinks])
        self._signs = {name: signs for name, signs in sources + sinks}

    @property
    def sources(self):
        """The pairs of the names and the signs of the sources."""
        return self._sources

    @property
    def sinks(self):
        """The pairs of the names and the signs of the sinks."""
        return self._sinks

    @property
    def names(self):
        """The names of the sources, and then those of the sinks."""
        return self._names

    def signs_of(self, name):
        """The signs of the stream with this name."""
        if name not in self:
            raise UnknownName(name)
        return self._signs[name]

    def is_source(self, name):
        """Whether the stream with this name is a source."""
        if name not in self:
            raise UnknownName(name)
        return self._names.index(name) < len(self._sources)

    def index_of(self, name):
        """The index of a source among the sources, or of a sink among the sinks."""
        if self.is_source(name):
            return self._names.index(name)
        return self._names.index(name) - len(self._sources)

    def is_content(self, value):
        """Whether the value is a content, with words of any length."""
        return _are_words(self._sources, value)

    def is_filling(self, value):
        """Whether the value is a filling, with words of any length."""
        return _are_words(self._sinks, value)

    def steps_of(self, content, filling):
        """The number of steps of all runs with this content and this filling."""
        if not self.is_content(content):
            raise InvalidContent("a content has a word of each source")
        if not self.is_filling(filling):
            raise InvalidContent("a filling has a word of each sink")
        return len("".join(content)) + len(self._sources) + len("".join(filling))

    def contents(self, many):
        """All contents with at most so many signs, by their numbers of signs, then ascending."""
        check_number(many, 0, MAX_LISTED)
        alphabets = [signs for name, signs in self._sources]
        for length in range(many + 1):
            yield from _contents_from(alphabets, "", length)

    def count(self, many):
        """How many contents have just so many signs."""
        check_number(many, 0, MAX_LISTED)
        counts = [1] + [0] * many
        for name, signs in self._sources:
            for length in range(1, many + 1):
                # A word of this source is empty, or it is a sign ahead of a word that is counted already.
                counts[length] = counts[length] + len(signs) * counts[length - 1]
        return counts[many]

    def renamed(self, names):
        """These streams with other names, by a dict from all names to different ones."""
        if not self._are_new_names(names):
            raise InvalidOperation("the names are not given by a dict from all names to different names")
        sources = tuple([(names[name], signs) for name, signs in self._sources])
        sinks = tuple([(names[name], signs) for name, signs in self._sinks])
        return Streams(sources, sinks)

    def _are_new_names(self, value):
        """Whether the value is a dict from all names to different names."""
        if not isinstance(value, dict) or len(value) != len(self._names):
            return False
        if not all([name in value and is_name(value[name]) for name in self._names]):
            return False
        return len(set(list(value.values()))) == len(value)

    def without(self, name):
        """These streams without the sink or the source of this name."""
        if name not in self:
            raise UnknownName(name)
        sources = tuple([pair for pair in self._sources if pair[0] != name])
        sinks = tuple([pair for pair in self._sinks if pair[0] != name])
        if not sources:
            raise InvalidOperation("streams have a source")
        return Streams(sources, sinks)

    def __add__(self, other):
        if not isinstance(other, Streams):
            raise InvalidOperation("only streams are added to streams")
        sources = self._sources + other._sources
        sinks = self._sinks + other._sinks
        if not _are_streams(sources, sinks):
            raise InvalidOperation("names are equal, or there are more than three of a kind")
        return Streams(sources, sinks)

    def __contains__(self, value):
        return value in self._names

    def __len__(self):
        return len(self._names)

    def __eq__(self, other):
        return isinstance(other, Streams) and self._sources == other._sources and self._sinks == other._sinks

    def __str__(self):
        return " ".join(_told(self._sources, self._sinks))
