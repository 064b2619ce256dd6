"""Tails: what runs that begin at some place of a program take and put, and which places have the same."""

from fewersteps.base.streams import is_pair
from fewersteps.books.flows import MAX_FLOW, count_from, indexed_moves, solid_ways
from fewersteps.errors import TooMany


def same_ended(program):
    """The lists of places at which the same sources have ended, each ascending."""
    groups = {}
    for at in range(len(program)):
        groups.setdefault(program.ended(at), []).append(at)
    return list(groups.values())


def check_tails(program):
    """Raise TooMany if too many runs with at most as many steps as the size of the program begin at some place."""
    moves = indexed_moves(program)
    now = {at: int(not moves[at]) for at in moves}
    total = dict(now)
    for _ in range(program.size):
        now = {at: _counted(moves[at], now) for at in moves}
        total = {at: total[at] + now[at] for at in moves}
    for ways in solid_ways(program).values():
        if sum([many * total[to] for to, many in ways.items()]) > MAX_FLOW:
            raise TooMany(MAX_FLOW)


def _counted(steps, now):
    """How many runs begin with one of these steps, by a dict with those from the solid places behind it."""
    return sum([many * now[to] for index, sign, nexts in steps for to, many in nexts.items()])


def parted(program, groups):
    """The classes into which these lists of places fall, and a dict from pairs of parted places to tails.

    All places of a list have the same ended sources. Parted places have unlike numbers of their tail, which has the
    fewest steps; the lesser place stands first in a pair.
    """
    moves = indexed_moves(program)
    ways = solid_ways(program)
    nothing = ("",) * len(program.streams)
    tails = {at: {} if moves[at] else {nothing: 1} for at in moves}
    told = {}
    left = groups
    for _ in range(program.size + 1):
        left = _parted_now(left, ways, tails, told)
        if max([len(places) for places in left]) == 1:
            break
        tails = {at: _begun(moves[at], tails) for at in moves}
    many = len(program.streams.sources)
    return left, {pair: (told[pair][:many], told[pair][many:]) for pair in sorted(told)}


def _begun(steps, tails):
    """The numbers of the tails that begin with one of these steps, by those with a step less at the places behind."""
    found = {}
    for index, sign, nexts in steps:
        added = "" if sign == "end" else sign
        for to, many in nexts.items():
            for words, runs in tails[to].items():
                longer = words[:index] + (added + words[index],) + words[index + 1:]
                found[longer] = found.get(longer, 0) + runs * many
    return found


def _parted_now(groups, ways, tails, told):
    """The lists of places whose tails with this number of steps have equal numbers; `told` gets what parts others."""
    kept = []
    for group in groups:
        parts = _parts_of(group, ways, tails) if len(group) > 1 else [(None, group)]
        for at, (table, places) in enumerate(parts):
            for other, others in parts[:at]:
                _tell(told, places, others, _unlike(table, other))
        kept.extend([places for table, places in parts])
    return kept


def _parts_of(group, ways, tails):
    """Pairs of the numbers of tails with this number of steps, and the list of the places that have just these."""
    parts = []
    for at in group:
        table = _table_at(ways[at], tails)
        equal = [places for other, places in parts if other == table]
        if equal:
            equal[0].append(at)
        else:
            parts.append((table, [at]))
    return parts


def _table_at(ways, tails):
    """The numbers of the tails with this number of steps, of a place with these ways to solid places."""
    found = {}
    for to, many in ways.items():
        for words, runs in tails[to].items():
            found[words] = found.get(words, 0) + runs * many
    return found


def _unlike(one, other):
    """The first key for which two dicts do not have equal numbers, where 0 stands for a missing one."""
    for key, number in one.items():
        if other.get(key, 0) != number:
            return key
    return [key for key in other if key not in one][0]


def _tell(told, places, others, words):
    """Note that these words part each of some places from each of some others."""
    for one in places:
        for other in others:
            told[(min(one, other), max(one, other))] = words


def is_tail(program, place, value):
    """Whether the value is a tail of the place, with words of any length."""
    if not is_pair(program.streams, value):
        return False
    ended = program.ended(place)
    return all([word == "" for source, word in zip(program.streams.sources, value[0]) if source[0] in ended])


def tail_numbers(program, pairs):
    """The list of the numbers of pairs (place, tail) of a program."""
    moves = indexed_moves(program)
    ways = solid_ways(program)
    many = len(program.streams.sources)
    numbers = []
    for place, tail in pairs:
        words = tail[0] + tail[1]
        steps = len("".join(words)) + many - len(program.ended(place))
        numbers.append(count_from(moves, ways[place], words, steps))
    return numbers
