"""Places, and what tuples of them have to obey, as functions over plain tuples.

All functions but `is_right` get places that have the right forms already.
"""

from fewersteps.base.streams import is_sign
from fewersteps.base.values import is_between

MAX_WAYS = 4

# A place at which all runs are lost; none of a right program, but trimming leaves it out.
LOST = ("either", ())


def is_right(streams, value, most):
    """Whether the value is the places of a right program with at most so many places."""
    if not isinstance(value, tuple) or not 1 <= len(value) <= most:
        return False
    if not all([_is_place(streams, place, len(value)) for place in value]):
        return False
    ended = ended_at(streams, value)
    if ended is None or None in ended:
        return False
    many = len(streams.sources)
    if not all([_may_stand(place, there, many) for place, there in zip(value, ended)]):
        return False
    return not comes_back({at: _next_without_sign(place) for at, place in enumerate(value)})


def _is_place(streams, value, many):
    """Whether the value has the form of a place of a program with so many places."""
    if not isinstance(value, tuple) or len(value) == 0:
        return False
    if value[0] == "take":
        return len(value) == 3 and _is_source(streams, value[1]) and _are_moves(streams, value[1], value[2], many)
    if value[0] == "put":
        return len(value) == 4 and _is_put(streams, value[1], value[2]) and is_between(value[3], 0, many - 1)
    if value[0] == "either":
        return len(value) == 2 and _are_ways(value[1], many)
    return value == ("done",)


def _is_source(streams, value):
    """Whether the value is the name of a source."""
    return value in streams and streams.is_source(value)


def _are_moves(streams, source, value, many):
    """Whether the value is a dict from signs of the source, and perhaps the end, to places."""
    if not isinstance(value, dict):
        return False
    signs = streams.signs_of(source)
    return all([_is_step(signs, step) and is_between(to, 0, many - 1) for step, to in value.items()])


def _is_step(signs, value):
    """Whether the value is one of the signs, or stands for the end."""
    return is_sign(signs, value) or value == "end"


def _is_put(streams, sink, sign):
    """Whether this sink is there and has this sign."""
    if sink not in streams or streams.is_source(sink):
        return False
    return is_sign(streams.signs_of(sink), sign)


def _are_ways(value, many):
    """Whether the value is the places of an either place."""
    if not isinstance(value, tuple) or not 1 <= len(value) <= MAX_WAYS:
        return False
    return all([is_between(to, 0, many - 1) for to in value])


def next_places(place):
    """The numbers of the places to which a place leads, in its order, each as often as it leads there."""
    if place[0] == "take":
        return list(place[2].values())
    if place[0] == "put":
        return [place[3]]
    if place[0] == "either":
        return list(place[1])
    return []


def ended_at(streams, places):
    """For each place the names of the sources that have ended there, None where no way leads to it.

    None instead of the list if two ways to a place differ in this.
    """
    ended = [None] * len(places)
    ended[0] = ()
    waiting = [0]
    while waiting:
        at = waiting.pop()
        behind = _ended_behind(streams, places[at], ended[at])
        for to, there in behind:
            if ended[to] is None:
                ended[to] = there
                waiting.append(to)
            elif ended[to] != there:
                return None
    return ended


def _ended_behind(streams, place, ended):
    """Pairs of a place to which this one leads and the names of the sources that have ended on this way."""
    if place[0] != "take":
        return [(to, ended) for to in next_places(place)]
    # The names stand in the order of the sources, so that equal sets of them are equal tuples.
    more = tuple([name for name, signs in streams.sources if name in ended or name == place[1]])
    return [(to, more if step == "end" else ended) for step, to in place[2].items()]


def _may_stand(place, ended, many):
    """Whether a place takes no source that has ended, and is done only where all so many sources have."""
    if place[0] == "take":
        return place[1] not in ended
    return place[0] != "done" or len(ended) == many


def comes_back(leads):
    """Whether a way leads from some place back to it, by a dict from places to the next places of such ways."""
    left = dict(leads)
    while left:
        # A place from which ways lead only to places that are left out is on no way back to itself.
        outside = [at for at in left if not any([to in left for to in left[at]])]
        if not outside:
            return True
        for at in outside:
            del left[at]
    return False


def _next_without_sign(place):
    """The places to which a place leads without a take of a sign."""
    if place[0] == "take":
        return [to for step, to in place[2].items() if step == "end"]
    return next_places(place)


def of_use(places):
    """For each place, whether a done place is reached from it."""
    ahead = [[] for _ in places]
    for at, place in enumerate(places):
        for to in next_places(place):
            ahead[to].append(at)
    waiting = [at for at, place in enumerate(places) if place[0] == "done"]
    useful = [place[0] == "done" for place in places]
    while waiting:
        to = waiting.pop()
        for at in ahead[to]:
            if not useful[at]:
                useful[at] = True
                waiting.append(at)
    return useful


def plain_order(places, kept, first):
    """The numbers of the kept places as a search by breadth from the first one finds them; this one is kept."""
    order = [first]
    found = {first: True}
    at = 0
    while at < len(order):
        behind = next_places(places[order[at]])
        for to in behind:
            if kept[to] and to not in found:
                found[to] = True
                order.append(to)
        at += 1
    return order


def trimmed_places(streams, places, first):
    """The places of the trimmed program that begins at this place, of places with moves in the order of the signs."""
    useful = of_use(places)
    if not useful[first]:
        return (("take", streams.names[0], {}),)
    return arranged(places, plain_order(places, useful, first))


def arranged(places, order):
    """The places with these numbers in this order, without what leads to other places."""
    numbers = {old: new for new, old in enumerate(order)}
    return tuple([renumbered(places[old], numbers) for old in order])


def renumbered(place, numbers):
    """The place with new numbers of places, without moves and ways to places that have none."""
    if place[0] == "take":
        return (place[0], place[1], {step: numbers[to] for step, to in place[2].items() if to in numbers})
    if place[0] == "put":
        return (place[0], place[1], place[2], numbers[place[3]])
    if place[0] == "either":
        return (place[0], tuple([numbers[to] for to in place[1] if to in numbers]))
    return place


def relinked(places, numbers):
    """The places, in the plain order, with all that leads to a place leading to the one with its new number instead.

    Where runs begin counts as what leads to place 0.
    """
    linked = [renumbered(place, numbers) for place in places]
    everything = [True] * len(places)
    return arranged(linked, plain_order(linked, everything, numbers[0]))


def settled(streams, place):
    """The place by itself, sharing nothing, with its moves in the order of the signs and the end last."""
    if place[0] != "take":
        return place
    moves = place[2]
    steps = [step for step in (*streams.signs_of(place[1]), "end") if step in moves]
    return (place[0], place[1], {step: moves[step] for step in steps})


def copied(place):
    """The place by itself, sharing nothing."""
    if place[0] == "take":
        return (place[0], place[1], dict(place[2]))
    return place


def with_names(place, names):
    """The place with other names of the streams, by a dict."""
    if place[0] == "take":
        return (place[0], names[place[1]], place[2])
    if place[0] == "put":
        return (place[0], names[place[1]], place[2], place[3])
    return place


def with_signs(place, name, signs):
    """The place with other signs of the stream of this name, by a dict from its signs."""
    if place[0] == "take" and place[1] == name:
        return (place[0], name, {signs.get(step, step): to for step, to in place[2].items()})
    if place[0] == "put" and place[1] == name:
        return (place[0], name, signs[place[2]], place[3])
    return place


def has_all_moves(streams, place):
    """Whether the place, if it is a take, has moves for all signs of its source and for its end."""
    return place[0] != "take" or len(place[2]) == len(streams.signs_of(place[1])) + 1
