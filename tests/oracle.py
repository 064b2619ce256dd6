"""Slow answers about tables of places, straight from the words of the document, that share nothing with the package."""

import itertools


def steps(place):
    """Triples (what is taken or None, its sign or "end", the next place)."""
    if place[0] == "take":
        return [(place[1], sign, to) for sign, to in place[2].items()]
    if place[0] == "put":
        return [(None, None, place[3])]
    if place[0] == "either":
        return [(None, None, to) for to in place[1]]
    return []


def states(places):
    """All pairs of a place and the set of sources whose ends were met, however the moves are combined."""
    found = {(0, frozenset())}
    fresh = list(found)
    while fresh:
        at, ended = fresh.pop()
        for source, sign, to in steps(places[at]):
            state = (to, ended | {source} if sign == "end" else ended)
            if state not in found:
                found.add(state)
                fresh.append(state)
    return found


def closure(many, pairs):
    """A table of which place leads to which by at least one of the pairs."""
    leads = [[(one, other) in pairs for other in range(many)] for one in range(many)]
    for by, one, other in itertools.product(range(many), repeat=3):
        leads[one][other] = leads[one][other] or (leads[one][by] and leads[by][other])
    return leads


def moves(places, signs=True):
    """All pairs of a place and a next one, perhaps without the takes of signs."""
    return {
        (at, to) for at, place in enumerate(places) for source, sign, to in steps(place)
        if signs or source is None or sign == "end"
    }


def is_right(sources, places):
    """Whether places of the right forms are those of a right program."""
    found = states(places)
    if len(found) != len(places) or {at for at, _ in found} != set(range(len(places))):
        return False
    for at, ended in found:
        if places[at][0] == "take" and places[at][1] in ended:
            return False
        if places[at][0] == "done" and ended != set(sources):
            return False
    back = closure(len(places), moves(places, signs=False))
    return not any(back[at][at] for at in range(len(places)))


def useful(places):
    """The places of use."""
    leads = closure(len(places), moves(places))
    done = [at for at, place in enumerate(places) if place[0] == "done"]
    return [at in done or any(leads[at][to] for to in done) for at in range(len(places))]


def runs(places, content, sinks):
    """The fillings of all runs for a dict from sources to words, ascending, each as often as there are runs."""
    found = []

    def go(at, left, put):
        place = places[at]
        if place[0] == "done":
            found.append(tuple(put[sink] for sink in sinks))
        elif place[0] == "take":
            word = left[place[1]]
            sign = word[0] if word else "end"
            if sign in place[2]:
                go(place[2][sign], {**left, place[1]: word[1:]}, put)
        elif place[0] == "put":
            go(place[3], left, {**put, place[1]: put[place[1]] + place[2]})
        else:
            for to in place[1]:
                go(to, left, put)

    go(0, content, {sink: "" for sink in sinks})
    return sorted(found)


def takes(source, signs, many):
    """All take places of a source in a table of so many places."""
    keys = [*signs, "end"]
    rows = itertools.product([None, *range(many)], repeat=len(keys))
    return [("take", source, {key: to for key, to in zip(keys, row) if to is not None}) for row in rows]


def all_places(sources, sinks, many, ways):
    """All places of the right forms in a table of so many places, with at most so many ways of an either place."""
    found = [("done",)]
    for source, signs in sources:
        found.extend(takes(source, signs, many))
    for sink, signs in sinks:
        found.extend(("put", sink, sign, to) for sign in signs for to in range(many))
    for length in range(1, ways + 1):
        found.extend(("either", row) for row in itertools.product(range(many), repeat=length))
    return found


def in_plain_order(places):
    """Whether a search by breadth finds the places in the order of their numbers."""
    found, fresh = [0], [0]
    while fresh:
        place = places[fresh.pop(0)]
        following = [to for _, sign, to in sorted(steps(place), key=sign_order)]
        for to in following:
            if to not in found:
                found.append(to)
                fresh.append(to)
    return found == list(range(len(places)))


def sign_order(step):
    """A key that sorts the moves of a take, the end last, and leaves other steps as they stand."""
    return (step[1] == "end", step[1]) if step[0] else 0


def all_runs(places, sources, sinks, many, start=0):
    """The tuples (steps, content, filling) of all runs with fewer than so many steps that begin at this place."""
    found = []

    def go(at, made, taken, put):
        place = places[at]
        if made >= many:
            return
        if place[0] == "done":
            found.append((made, tuple(taken[name] for name in sources), tuple(put[name] for name in sinks)))
        elif place[0] == "take":
            for sign, to in place[2].items():
                more = "" if sign == "end" else sign
                go(to, made + 1, {**taken, place[1]: taken[place[1]] + more}, put)
        elif place[0] == "put":
            go(place[3], made + 1, taken, {**put, place[1]: put[place[1]] + place[2]})
        else:
            for to in place[1]:
                go(to, made, taken, put)

    go(start, 0, {name: "" for name in sources}, {name: "" for name in sinks})
    return found


def names(streams):
    """The names of the sources, and those of the sinks."""
    return [name for name, _ in streams.sources], [name for name, _ in streams.sinks]


def runs_of(program, many):
    """All runs of a program with fewer than so many steps."""
    return all_runs(program.places, *names(program.streams), many)


def tails(program, at, many):
    """A dict from the tails of a place with at most so many steps to their numbers, where these are not 0."""
    return table(all_runs(program.places, *names(program.streams), many + 1, at))


def table(found):
    """A dict from the pairs (content, filling) of runs, ascending, to how many there are."""
    pairs = [(content, filling) for _, content, filling in found]
    return {pair: pairs.count(pair) for pair in sorted(set(pairs))}


def fillings(program, content):
    """A dict from the fillings of all runs for a content, ascending, to how many there are."""
    sources, sinks = names(program.streams)
    found = runs(program.places, dict(zip(sources, content)), sinks)
    return {filling: found.count(filling) for filling in sorted(set(found))}


def numbers(bag, many):
    """The numbers of a bag, where they are not 0, for all contents and fillings with fewer than so many steps."""
    total = {}
    for program, factor in bag.pairs:
        for _, content, filling in runs_of(program, many):
            total[(content, filling)] = total.get((content, filling), 0) + factor
    return {pair: total[pair] for pair in sorted(total) if total[pair]}
