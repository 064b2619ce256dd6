"""Programs: finite tables of places that take signs from sources and put signs to sinks."""

from fewersteps.base.streams import Streams, check_sink, check_source, check_streams, is_sign
from fewersteps.base.values import check_number
from fewersteps.books.places import arranged, copied, ended_at, has_all_moves, is_right, of_use, plain_order
from fewersteps.books.places import settled, trimmed_places, with_names, with_signs
from fewersteps.errors import InvalidOperation, InvalidProgram, InvalidWord, TooMany

MAX_WRITTEN = 24
MAX_PLACES = 80


def is_places(streams, value):
    """Whether the value is the places of a right program that can be written."""
    check_streams(streams)
    return is_right(streams, value, MAX_WRITTEN)


def made_program(streams, places):
    """The program with these places, which are right and were made by the package, not written."""
    if len(places) > MAX_PLACES:
        raise TooMany(MAX_PLACES)
    program = Program.nothing(streams)
    program._hold(places)
    return program


def check_program(value):
    """Raise InvalidProgram if the value is no program."""
    if not isinstance(value, Program):
        raise InvalidProgram("this is no program")


def _reading_places(streams, source, sink):
    """The places that take all sources, one behind the other, and put the signs of this source to the sink.

    Without such a source they put nothing.
    """
    places = []
    for name, signs in streams.sources:
        at = len(places)
        put_signs = signs if name == source else ""
        moves = {sign: at for sign in signs}
        for to, sign in enumerate(put_signs, start=at + 1):
            moves[sign] = to
        moves["end"] = at + len(put_signs) + 1
        places.append(("take", name, moves))
        places.extend([("put", sink, sign, at) for sign in put_signs])
    places.append(("done",))
    return tuple(places)


class Program:
    """A right program; it never changes."""

    def __init__(self, streams, places):
        if not isinstance(streams, Streams):
            raise InvalidProgram("a program is for streams")
        if not is_right(streams, places, MAX_WRITTEN):
            raise InvalidProgram("these are not the places of a right program for these streams")
        self._streams = streams
        self._hold(places)

    def _hold(self, places):
        """Take over these places, which are right."""
        self._places = tuple([settled(self._streams, place) for place in places])
        self._ended = ended_at(self._streams, self._places)
        self._useful = of_use(self._places)

    @classmethod
    def nothing(cls, streams):
        """The trimmed program without runs."""
        check_streams(streams)
        return cls(streams, (("take", streams.names[0], {}),))

    @classmethod
    def reading(cls, streams):
        """The trimmed program that takes each source to its end, one behind the other, and puts nothing."""
        check_streams(streams)
        return cls(streams, _reading_places(streams, None, None))

    @classmethod
    def copying(cls, streams, source, sink):
        """The trimmed program that reads all sources and puts each sign of this one to the sink."""
        check_streams(streams)
        check_source(streams, source)
        check_sink(streams, sink)
        if not all([sign in streams.signs_of(sink) for sign in streams.signs_of(source)]):
            raise InvalidOperation("a sign of the source is none of the sink")
        return cls(streams, _reading_places(streams, source, sink))

    @property
    def streams(self):
        """The streams that the program is for."""
        return self._streams

    @property
    def places(self):
        """The places, by their numbers."""
        return tuple([copied(place) for place in self._places])

    @property
    def size(self):
        """The number of the take and put places that are of use."""
        counted = [at for at, place in enumerate(self._places) if place[0] in ("take", "put")]
        return len([at for at in counted if self._useful[at]])

    def ended(self, place):
        """The names of the sources that have ended at the place with this number, in their order."""
        check_number(place, 0, len(self._places) - 1)
        return self._ended[place]

    def is_of_use(self, place):
        """Whether a done place is reached from the place with this number."""
        check_number(place, 0, len(self._places) - 1)
        return self._useful[place]

    def is_plain(self):
        """Whether there is no either place."""
        return all([place[0] != "either" for place in self._places])

    def is_total(self):
        """Whether each take place has moves for all signs of its source and for its end."""
        return all([has_all_moves(self._streams, place) for place in self._places])

    def with_place(self, place, value):
        """This program with another place under this number."""
        check_number(place, 0, len(self._places) - 1)
        places = self._places[:place] + (value,) + self._places[place + 1:]
        # The number of places stays, and a program that the package made can have more than a written one.
        if not is_right(self._streams, places, MAX_PLACES):
            raise InvalidProgram("with this place it is no right program")
        return made_program(self._streams, places)

    def ordered(self):
        """The program with the same places in the plain order."""
        everything = [True] * len(self._places)
        order = plain_order(self._places, everything, 0)
        return made_program(self._streams, arranged(self._places, order))

    def trimmed(self):
        """The program without what is of no use, in the plain order."""
        return made_program(self._streams, trimmed_places(self._streams, self._places, 0))

    def is_trimmed(self):
        """Whether the program is trimmed."""
        return self == self.trimmed()

    def renamed(self, names):
        """The program with other names of its streams, by a dict from all names to different ones."""
        streams = self._streams.renamed(names)
        return made_program(streams, [with_names(place, names) for place in self._places])

    def exchanged(self, name, one, other):
        """The program with two signs of a stream in the place of each other."""
        signs = self._streams.signs_of(name)
        if not is_sign(signs, one) or not is_sign(signs, other):
            raise InvalidWord("this is no sign of the stream")
        swapped = {sign: sign for sign in signs}
        swapped[one] = other
        swapped[other] = one
        return made_program(self._streams, [with_signs(place, name, swapped) for place in self._places])

    def __getitem__(self, place):
        check_number(place, 0, len(self._places) - 1)
        return copied(self._places[place])

    def __iter__(self):
        raise TypeError("a program cannot be iterated over")

    def __len__(self):
        return len(self._places)

    def __eq__(self, other):
        return isinstance(other, Program) and self._streams == other._streams and self._places == other._places

    def __str__(self):
        return f"program of {len(self._places)} places, size {self.size}"
