"""The kinds of exchanges, as functions over the places of a program.

Each function gets a tuple of places with their moves in the order of the signs, and returns them as they are behind
the exchange, not trimmed, or None if this is no exchange of them. New places stand behind the others.
"""

from fewersteps.books.places import MAX_WAYS, next_places


def delayed(places, at):
    """The places with the put at this place behind the take to which it leads."""
    put = places[at]
    if put[0] != "put" or places[put[3]][0] != "take":
        return None
    source = places[put[3]][1]
    moves = places[put[3]][2]
    made = list(places)
    made[at] = ("take", source, {step: len(places) + index for index, step in enumerate(moves)})
    made.extend([("put", put[1], put[2], to) for to in moves.values()])
    return made


def advanced(places, at):
    """The places with the take at this place behind the equal puts to which it leads."""
    take = places[at]
    if take[0] != "take" or not take[2]:
        return None
    puts = [places[to] for to in take[2].values()]
    if not all([put[0] == "put" and put[:3] == puts[0][:3] for put in puts]):
        return None
    made = list(places)
    made[at] = ("put", puts[0][1], puts[0][2], len(places))
    made.append(("take", take[1], {step: places[to][3] for step, to in take[2].items()}))
    return made


def swapped(places, at):
    """The places with the put at this place behind the put to another sink to which it leads."""
    put = places[at]
    if put[0] != "put":
        return None
    other = places[put[3]]
    if other[0] != "put" or other[1] == put[1]:
        return None
    made = list(places)
    made[at] = ("put", other[1], other[2], len(places))
    made.append(("put", put[1], put[2], other[3]))
    return made


def crossed(streams, places, at):
    """The places with the take at this place behind the takes of the same other source to which it leads."""
    take = places[at]
    if take[0] != "take" or not take[2]:
        return None
    others = {step: places[to] for step, to in take[2].items()}
    begun = places[next_places(take)[0]][:2]
    if begun[0] != "take" or begun[1] == take[1] or not all([other[:2] == begun for other in others.values()]):
        return None
    source = begun[1]
    made = list(places)
    moves = {}
    for step in (*streams.signs_of(source), "end"):
        behind = {own: other[2][step] for own, other in others.items() if step in other[2]}
        if behind:
            moves[step] = len(made)
            made.append(("take", take[1], behind))
    made[at] = ("take", source, moves)
    return made


def copied_to(places, at, to):
    """The places with a place of its own, like this one was, for all ways from one place to another."""
    if to not in next_places(places[at]):
        return None
    made = list(places)
    made.append(places[to])
    made[at] = redirected(places[at], to, len(places))
    return made


def redirected(place, old, new):
    """The place with another number for one of the places to which it leads."""
    if place[0] == "take":
        return (place[0], place[1], {step: new if to == old else to for step, to in place[2].items()})
    if place[0] == "put":
        return (place[0], place[1], place[2], new if place[3] == old else place[3])
    if place[0] == "either":
        return (place[0], tuple([new if to == old else to for to in place[1]]))
    return place


def joined(places, ended, one, other):
    """The places with all that led to the second of two equal places leading to the first one."""
    if one >= other or places[one] != places[other] or ended[one] != ended[other]:
        return None
    return [redirected(place, other, one) for place in places]


def skipped(places, at):
    """The places with all that led to an either place with one place in it leading to that one."""
    if places[at][0] != "either" or len(places[at][1]) != 1:
        return None
    return [redirected(place, at, places[at][1][0]) for place in places]


def flattened(places, at, index):
    """The places with the places of an either place standing in another one in its place."""
    if places[at][0] != "either" or index >= len(places[at][1]):
        return None
    ways = places[at][1]
    inner = places[ways[index]]
    if inner[0] != "either" or len(ways) - 1 + len(inner[1]) > MAX_WAYS:
        return None
    made = list(places)
    made[at] = ("either", ways[:index] + inner[1] + ways[index + 1:])
    return made


def turned(places, at, order):
    """The places with the places of an either place in another order."""
    if places[at][0] != "either" or sorted(order) != list(range(len(places[at][1]))):
        return None
    made = list(places)
    made[at] = ("either", tuple([places[at][1][index] for index in order]))
    return made
