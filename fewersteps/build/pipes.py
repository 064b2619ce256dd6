"""Programs that are built of others: one behind the other, or for other streams."""

from fewersteps.base.streams import Streams, check_sink, check_source, is_word
from fewersteps.books.places import LOST, next_places, renumbered, trimmed_places
from fewersteps.books.program import MAX_PLACES, check_program, made_program
from fewersteps.errors import InvalidOperation, InvalidStreams, InvalidWord, TooMany


def pipe(one, sink, other, source):
    """The program that puts what one program puts to this sink into this source of the other one."""
    check_program(one)
    check_sink(one.streams, sink)
    check_program(other)
    check_source(other.streams, source)
    streams = _piped_streams(one, sink, other, source)
    _check_places(len(one) * len(other))
    places = []
    for at, place in enumerate(one.places):
        for to, behind in enumerate(other.places):
            places.append(_piped(place, sink, behind, source, (at, to, len(other))))
    return made_program(streams, trimmed_places(streams, places, 0))


def _check_places(many):
    """Raise TooMany if a program could not have so many places."""
    if many > MAX_PLACES:
        raise TooMany(MAX_PLACES)


def _piped_streams(one, sink, other, source):
    """The streams of both programs without these two; InvalidOperation if there are none."""
    if one.streams.signs_of(sink) != other.streams.signs_of(source):
        raise InvalidOperation("the sink and the source do not have the same signs")
    sources = one.streams.sources + tuple([pair for pair in other.streams.sources if pair[0] != source])
    sinks = tuple([pair for pair in one.streams.sinks if pair[0] != sink]) + other.streams.sinks
    try:
        return Streams(sources, sinks)
    except InvalidStreams:
        raise InvalidOperation("names are equal, or there are more than three of a kind") from None


def _piped(place, sink, behind, source, pair):
    """The place of a pair of places; `pair` has their numbers, and how many the second one is one of."""
    at, to, many = pair
    if place[0] != "done" and place[:2] != ("put", sink):
        return renumbered(place, {there: there * many + to for there in next_places(place)})
    if behind[:2] != ("take", source):
        # No put of the first program is left where the second one is done, as it met the end of its source.
        return renumbered(behind, {there: at * many + there for there in next_places(behind)})
    step, stays = ("end", at) if place[0] == "done" else (place[2], place[3])
    return ("either", (stays * many + behind[2][step],)) if step in behind[2] else LOST


def beside(one, other):
    """The program that does all of one program, and then all of the other one."""
    check_program(one)
    check_program(other)
    streams = one.streams + other.streams
    many = len(one)
    _check_places(many + len(other))
    numbers = {at: many if place == ("done",) else at for at, place in enumerate(one.places)}
    places = [renumbered(place, numbers) for place in one.places]
    shifted = {at: many + at for at in range(len(other))}
    places.extend([renumbered(place, shifted) for place in other.places])
    return made_program(streams, trimmed_places(streams, places, 0))


def only(program, sinks):
    """The program that puts to these sinks alone."""
    check_program(program)
    if not _are_sinks(program.streams, sinks):
        raise InvalidOperation("these are not a tuple of names of sinks in their order")
    left = tuple([pair for pair in program.streams.sinks if pair[0] in sinks])
    streams = Streams(program.streams.sources, left)
    places = [_without_put(place, sinks) for place in program.places]
    return made_program(streams, trimmed_places(streams, places, 0))


def _are_sinks(streams, value):
    """Whether the value is a tuple of names of sinks in the order of the streams."""
    if not isinstance(value, tuple) or not all([name in streams and not streams.is_source(name) for name in value]):
        return False
    return all([streams.index_of(one) < streams.index_of(other) for one, other in zip(value, value[1:])])


def _without_put(place, sinks):
    """The place, or an either place with one place in it for a put to another sink than these."""
    return ("either", (place[3],)) if place[0] == "put" and place[1] not in sinks else place


def drained(program, name, signs):
    """The program with one more source, the last one, that it reads to the end behind all else."""
    check_program(program)
    streams = Streams(program.streams.sources + ((name, signs),), program.streams.sinks)
    places = [_draining(place, at, len(program), (name, signs)) for at, place in enumerate(program.places)]
    return made_program(streams, trimmed_places(streams, places + [("done",)], 0))


def _draining(place, at, done, stream):
    """The place with this number, or a take of the stream to its end for a done place."""
    if place[0] != "done":
        return place
    moves = {sign: at for sign in stream[1]}
    moves["end"] = done
    return ("take", stream[0], moves)


def filled(program, source, word):
    """The program without this source, which always has this word."""
    check_program(program)
    check_source(program.streams, source)
    if not is_word(program.streams.signs_of(source), word):
        raise InvalidWord("this is no word of the source")
    streams = program.streams.without(source)
    _check_places(len(program) * (len(word) + 1))
    places = []
    for place in program.places:
        places.extend([_filled(place, source, word, at) for at in range(len(word) + 1)])
    return made_program(streams, trimmed_places(streams, places, 0))


def _filled(place, source, word, at):
    """The place of the pair of a place and the number of signs of the word that were taken."""
    many = len(word) + 1
    if place[:2] != ("take", source):
        return renumbered(place, {to: to * many + at for to in next_places(place)})
    step, behind = (word[at], at + 1) if at < len(word) else ("end", at)
    return ("either", (place[2][step] * many + behind,)) if step in place[2] else LOST
