"""What of a program depends on what: its sinks on its sources, on single signs, and on the order of streams."""

from fewersteps.base.streams import check_sink, check_source, is_word
from fewersteps.books.flows import count_runs
from fewersteps.books.places import next_places, with_names
from fewersteps.books.program import Program, check_program, made_program
from fewersteps.build.pipes import drained, only
from fewersteps.decide.alike import apart, is_alike
from fewersteps.errors import InvalidOperation, TooMany

MAX_DOUBLED = 2


def doubled(program, source, name):
    """Two programs with one more source: one reads it behind all else, the other one takes it as the source."""
    check_program(program)
    check_source(program.streams, source)
    one = drained(program, name, program.streams.signs_of(source))
    return (one, _with_names_exchanged(one, source, name))


def _with_names_exchanged(program, one, other):
    """The program for the same streams with two sources, or two sinks, in the place of each other."""
    names = {name: name for name in program.streams.names}
    names[one] = other
    names[other] = one
    return made_program(program.streams, [with_names(place, names) for place in program.places])


def depends(program, sink, source):
    """Whether the sink depends on the source."""
    one, other = _doubled_only(program, sink, source)
    return not is_alike(one, other)


def _doubled_only(program, sink, source):
    """The two doubled programs with this sink alone."""
    _check_names(program, sink, source)
    if len(program.streams.sources) > MAX_DOUBLED:
        raise TooMany(MAX_DOUBLED)
    # There are fewer streams than these names.
    name = [letter for letter in "abcdefg" if letter not in program.streams][0]
    one, other = doubled(program, source, name)
    return (only(one, (sink,)), only(other, (sink,)))


def _check_names(program, sink, source):
    """Raise the error that is due if these are not a program and the names of a sink and a source of it."""
    check_program(program)
    check_sink(program.streams, sink)
    check_source(program.streams, source)


def dependence(program, sink, source):
    """Two contents that differ in the word of the source alone, and a word of the sink with unlike numbers."""
    one, other = _doubled_only(program, sink, source)
    found = apart(one, other)
    if found is None:
        raise InvalidOperation("the sink does not depend on the source")
    content = found[0][:-1]
    index = program.streams.index_of(source)
    return (content, content[:index] + found[0][-1:] + content[index + 1:], found[1][0])


def is_dependence(program, sink, source, value):
    """Whether the value is such a tuple, with words of any length."""
    _check_names(program, sink, source)
    streams = program.streams
    if not isinstance(value, tuple) or len(value) != 3 or not all([streams.is_content(part) for part in value[:2]]):
        return False
    if not is_word(streams.signs_of(sink), value[2]):
        return False
    unlike = [name for name, one, other in zip(streams.names, value[0], value[1]) if one != other]
    if unlike != [source]:
        return False
    left = only(program, (sink,))
    return count_runs(left, value[0], value[2:]) != count_runs(left, value[1], value[2:])


def copies(program):
    """All pairs of a source and a sink that gets just what comes from it."""
    check_program(program)
    streams = program.streams
    pairs = [(source, sink) for source, signs in streams.sources for sink, own in streams.sinks]
    return tuple([(source, sink) for source, sink in pairs if _is_copied(program, source, sink)])


def _is_copied(program, source, sink):
    """Whether the sink gets just what comes from the source."""
    signs = program.streams.signs_of(sink)
    if not all([sign in signs for sign in program.streams.signs_of(source)]):
        return False
    left = only(program, (sink,))
    return is_alike(left, Program.copying(left.streams, source, sink))


def blind_signs(program, name):
    """The classes of the signs of a stream that can be exchanged."""
    check_program(program)
    signs = program.streams.signs_of(name)
    pairs = [(one, other) for one in signs for other in signs if one < other]
    alike = [pair for pair in pairs if is_alike(program, program.exchanged(name, pair[0], pair[1]))]
    return tuple(["".join(members) for members in _classes(signs, alike)])


def _classes(members, pairs):
    """The lists of members that are together in pairs, by the first ones of each."""
    classes = []
    for member in members:
        found = [others for others in classes if (others[0], member) in pairs]
        if found:
            found[0].append(member)
        else:
            classes.append([member])
    return classes


def exchangeable(program):
    """The classes of the names of the streams that can be exchanged."""
    check_program(program)
    streams = program.streams
    pairs = []
    for kind in (streams.sources, streams.sinks):
        for at, (other, signs) in enumerate(kind):
            pairs.extend([(one, other) for one, own in kind[:at] if own == signs])
    alike = [pair for pair in pairs if is_alike(program, _with_names_exchanged(program, pair[0], pair[1]))]
    return tuple([tuple(names) for names in _classes(streams.names, alike)])


def constant(program, sink):
    """The word that each run that is not lost puts to the sink, or None."""
    check_program(program)
    check_sink(program.streams, sink)
    places = program.trimmed().places
    words = _words_behind(places, sink)
    for at, place in enumerate(places):
        if any([words[at] != _put_at(place, sink) + words[to] for to in next_places(place)]):
            return None
    return words.get(0)


def _words_behind(places, sink):
    """A dict from the places to what one of the runs from there puts to the sink."""
    words = {at: "" for at, place in enumerate(places) if place == ("done",)}
    fresh = words
    while fresh:
        fresh = {}
        for at, place in enumerate(places):
            known = [words[to] for to in next_places(place) if to in words]
            if at not in words and known:
                fresh[at] = _put_at(place, sink) + known[0]
        words = {**words, **fresh}
    return words


def _put_at(place, sink):
    """What the place puts to the sink."""
    return place[2] if place[:2] == ("put", sink) else ""
