"""Sums of places with rests, and closed tables of them, which show that a bag is empty."""

from fewersteps.algebra.bags import check_bag
from fewersteps.base.streams import check_source, is_word
from fewersteps.base.values import is_between, is_integer
from fewersteps.books.places import comes_back, next_places
from fewersteps.errors import InvalidOperation, TooMany

MAX_ROWS = 200
MAX_REST = 20

END = "."


def is_sum(bag, value):
    """Whether the value is a sum of the bag."""
    check_bag(bag)
    if not isinstance(value, tuple) or not all([_is_item(bag, item) for item in value]):
        return False
    # Items that are alike but for their factors are none of a sum, so that the factors do not count here.
    return all([one[:3] < other[:3] for one, other in zip(value, value[1:])])


def _is_item(bag, value):
    """Whether the value is an item of the bag."""
    if not isinstance(value, tuple) or len(value) != 4 or not is_between(value[0], 0, len(bag) - 1):
        return False
    program = bag.pairs[value[0]][0]
    if not is_between(value[1], 0, len(program) - 1) or not program.is_of_use(value[1]):
        return False
    return _are_rests(program, value[1], value[2]) and is_integer(value[3]) and value[3] != 0


def _are_rests(program, place, value):
    """Whether the value is a tuple with a rest of each stream for this place."""
    names = program.streams.names
    if not isinstance(value, tuple) or len(value) != len(names):
        return False
    ended = program.ended(place)
    return all([_is_rest(program.streams.signs_of(name), name in ended, rest) for name, rest in zip(names, value)])


def _is_rest(signs, ended, value):
    """Whether the value is a rest of a stream with these signs, whose end was met or not."""
    if not isinstance(value, str):
        return False
    if ended and value != "":
        return value[-1] == END and is_word(signs, value[:-1])
    return is_word(signs, value)


def _check_sum(bag, value):
    """Raise the error that is due if the value is no sum of the bag."""
    if not is_sum(bag, value):
        raise InvalidOperation("this is no sum of the bag")


def first_sum(bag):
    """The sum with an item for place 0 of each program, not stripped."""
    check_bag(bag)
    rests = ("",) * len(bag.streams)
    return tuple([(index, 0, rests, pair[1]) for index, pair in enumerate(bag.pairs) if pair[0].is_of_use(0)])


def stripped(bag, value):
    """The sum without what the rests of all its items begin with."""
    _check_sum(bag, value)
    return _cut(value)


def _cut(items):
    """The stripped sum of a sum."""
    if not items:
        return ()
    shared = [_shared_length([item[2][at] for item in items]) for at in range(len(items[0][2]))]
    if not any(shared):
        return items
    # What is taken off is the same for all items, so that they stay ascending.
    return tuple([(index, place, _without(rests, shared), factor) for index, place, rests, factor in items])


def _shared_length(words):
    """The length of the longest word with which all words begin."""
    low = min(words)
    high = max(words)
    for at in range(min(len(low), len(high))):
        if low[at] != high[at]:
            return at
    return min(len(low), len(high))


def _without(rests, lengths):
    """The rests without so many signs at their beginnings."""
    return tuple([rest[length:] for rest, length in zip(rests, lengths)])


def can_lead(bag, value, source):
    """Whether the sum can be led by the source."""
    _check_sum(bag, value)
    check_source(bag.streams, source)
    return _can_lead(bag, value, source)


def _can_lead(bag, items, source):
    """Whether the source is open in all items, and no way from those with an empty rest of it goes on without it."""
    left = _places_without(bag, items, source)
    if not all([_is_open_at(bag, place, source) for place in left]):
        return False
    for index, pair in enumerate(bag.pairs):
        starts = [place[1] for place in left if place[0] == index]
        if comes_back(_ways_without(pair[0], starts, source)):
            return False
    return True


def _places_without(bag, items, source):
    """The pairs (index, place) of the items with an empty rest of the source, each once; others are open anyway."""
    own = bag.streams.index_of(source)
    return sorted({item[:2] for item in items if item[2][own] == ""})


def _is_open_at(bag, place, source):
    """Whether the source is open in items with an empty rest of it and this pair (index, place)."""
    return source not in bag.pairs[place[0]][0].ended(place[1])


def _ways_without(program, starts, source):
    """A dict from the places of use to which ways without a take of the source lead, to the next ones on such ways."""
    leads = {}
    waiting = list(starts)
    while waiting:
        at = waiting.pop()
        place = program[at]
        if at not in leads:
            behind = [] if place[:2] == ("take", source) else next_places(place)
            leads[at] = [to for to in behind if program.is_of_use(to)]
            waiting.extend(leads[at])
    return leads


def led(bag, value, source):
    """The sum in which each item with an empty rest of the source is gone on with until there is none."""
    _check_led(bag, value, source)
    return _led(bag, value, source)


def _check_led(bag, value, source):
    """Raise the error that is due if this is no sum that can be led by the source."""
    if not can_lead(bag, value, source):
        raise InvalidOperation("the sum cannot be led by this source")


def _led(bag, items, source):
    """The led sum of a sum that can be led."""
    own = bag.streams.index_of(source)
    factors = {item[:3]: item[3] for item in items}
    left = [key for key in factors if key[2][own] == ""]
    while left:
        factors = _gone_on(bag, factors, left)
        left = [key for key in factors if key[2][own] == ""]
    return tuple([(*key, factors[key]) for key in sorted(factors)])


def _gone_on(bag, factors, left):
    """The dict from (index, place, rests) to factors with the items of these keys gone on with by one move."""
    gone = {key: True for key in left}
    later = {key: factor for key, factor in factors.items() if key not in gone}
    moves = {place: _moves_of(bag.pairs[place[0]][0], place[1]) for place in sorted({key[:2] for key in left})}
    for key in left:
        for to, at, sign in moves[key[:2]]:
            behind = (key[0], to, key[2] if at is None else _longer(key[2], at, sign))
            later[behind] = later.get(behind, 0) + factors[key]
    return {key: factor for key, factor in later.items() if factor != 0}


def _moves_of(program, at):
    """The moves of a place to places of use: (next place, index of the stream or None, sign behind its rest)."""
    place = program[at]
    names = program.streams.names
    if place[0] == "take":
        index = names.index(place[1])
        moves = [(to, index, END if step == "end" else step) for step, to in place[2].items()]
    elif place[0] == "put":
        moves = [(place[3], names.index(place[1]), place[2])]
    else:
        moves = [(to, None, "") for to in next_places(place)]
    return [move for move in moves if program.is_of_use(move[0])]


def _longer(rests, at, sign):
    """The rests with a sign more behind the one with this index."""
    return rests[:at] + (rests[at] + sign,) + rests[at + 1:]


def split(bag, value, source):
    """A dict from the signs of the source and "end" to the sums into which the led sum is split."""
    _check_led(bag, value, source)
    return _split(bag, value, source)


def _split(bag, items, source):
    """The sums into which a sum is split that can be led."""
    own = bag.streams.index_of(source)
    everything = _led(bag, items, source)
    parts = {}
    for sign in (*bag.streams.signs_of(source), END):
        begun = [item for item in everything if item[2][own][0] == sign]
        if begun:
            lengths = [int(at == own) for at in range(len(bag.streams))]
            key = "end" if sign == END else sign
            parts[key] = tuple([(item[0], item[1], _without(item[2], lengths), item[3]) for item in begun])
    return parts


def gone_on(bag, value):
    """A dict from the rests at done places to the sums of the factors, where these are not 0."""
    _check_sum(bag, value)
    if _has_open(bag, value):
        raise InvalidOperation("a source is open")
    return _at_ends(bag, value)


def _has_open(bag, items):
    """Whether some source is open in some item."""
    for at, source in enumerate(bag.streams.sources):
        if any([item[2][at] != "" for item in items]):
            return True
        if any([_is_open_at(bag, place, source[0]) for place in _places_without(bag, items, source[0])]):
            return True
    return False


def _at_ends(bag, items):
    """What `gone_on` returns, of a sum in which no source is open."""
    factors = {item[:3]: item[3] for item in items}
    left = [key for key in factors if not _is_done(bag, key)]
    while left:
        factors = _gone_on(bag, factors, left)
        left = [key for key in factors if not _is_done(bag, key)]
    total = {}
    for key, factor in factors.items():
        total[key[2]] = total.get(key[2], 0) + factor
    return {rests: total[rests] for rests in sorted(total) if total[rests] != 0}


def _is_done(bag, key):
    """Whether the place of an item is a done place."""
    return bag.pairs[key[0]][0][key[1]] == ("done",)


def closed_table(bag):
    """The closed table that is found by leading each sum by the first source that can lead it."""
    check_bag(bag)
    table = {}
    waiting = [_cut(first_sum(bag))]
    at = 0
    while at < len(waiting):
        found = waiting[at]
        at += 1
        if found and found not in table:
            _check_limits(table, found)
            table[found] = _leader(bag, found)
            if table[found] is not None:
                parts = _split(bag, found, table[found])
                waiting.extend([_cut(part) for part in parts.values()])
    return {found: table[found] for found in sorted(table)}


def _check_limits(table, found):
    """Raise TooMany if a stripped sum has too long rests, or is one too much for the table."""
    if max([len(rest) for item in found for rest in item[2]]) > MAX_REST:
        raise TooMany(MAX_REST)
    if len(table) >= MAX_ROWS:
        raise TooMany(MAX_ROWS)


def _leader(bag, found):
    """The first source by which the sum can be led, or None if none is open in any item."""
    if not _has_open(bag, found):
        if _at_ends(bag, found):
            raise InvalidOperation("the bag is not empty")
        return None
    for name, signs in bag.streams.sources:
        if _can_lead(bag, found, name):
            return name
    raise InvalidOperation("a sum can be led by no source")


def is_closed_table(bag, value):
    """Whether the value is a closed table of the bag."""
    check_bag(bag)
    if not isinstance(value, dict):
        return False
    first = _cut(first_sum(bag))
    if first and first not in value:
        return False
    return all([_is_row(bag, value, found, source) for found, source in value.items()])


def _is_row(bag, table, found, source):
    """Whether the table is right about this sum, which is to be led by this source, or by none."""
    if not is_sum(bag, found) or len(found) == 0 or _cut(found) != found:
        return False
    if source is None:
        return not _has_open(bag, found) and not _at_ends(bag, found)
    if source not in bag.streams or not bag.streams.is_source(source) or not _can_lead(bag, found, source):
        return False
    parts = _split(bag, found, source)
    return all([_cut(part) in table for part in parts.values()])
