"""Slow answers about sums and closed tables, straight from the words of the document."""

from tests import oracle


def index_of(bag, source):
    """The index of a stream among all."""
    return bag.streams.names.index(source)


def merged(items):
    """The items, of which those that differ in their factors alone are added up, without those with the factor 0."""
    keys = sorted({item[:3] for item in items})
    rows = [(*key, sum(item[3] for item in items if item[:3] == key)) for key in keys]
    return tuple(row for row in rows if row[3])


def replaced(bag, item):
    """The items by which an item is replaced to go on with it."""
    index, place, rests, factor = item
    program = bag.pairs[index][0]
    found = []
    for source, sign, to in oracle.steps(program.places[place]):
        at = None
        if source is not None:
            at, sign = index_of(bag, source), "." if sign == "end" else sign
        elif program[place][0] == "put":
            at, sign = index_of(bag, program[place][1]), program[place][2]
        behind = tuple(rest + (sign if at == here else "") for here, rest in enumerate(rests))
        if oracle.useful(program.places)[to]:
            found.append((index, to, behind, factor))
    return found


def is_open(bag, item, source):
    """Whether the source is open in the item."""
    return item[2][index_of(bag, source)] != "" or source not in bag.pairs[item[0]][0].ended(item[1])


def can_lead(bag, items, source):
    """Whether the source is open in all items, and no way from an empty rest of it goes round without it."""
    def goes_round(program, at, behind):
        if at in behind:
            return True
        steps = oracle.steps(program.places[at])
        useful = oracle.useful(program.places)
        return any(goes_round(program, to, behind | {at}) for take, _, to in steps if take != source and useful[to])

    for item in items:
        if not is_open(bag, item, source):
            return False
        if item[2][index_of(bag, source)] == "" and goes_round(bag.pairs[item[0]][0], item[1], frozenset()):
            return False
    return True


def led(bag, items, source):
    """The led sum."""
    done, left = [], list(items)
    while left:
        item = left.pop()
        if item[2][index_of(bag, source)]:
            done.append(item)
        else:
            left.extend(replaced(bag, item))
    return merged(done)


def split(bag, items, source):
    """The sums into which the sum is split."""
    at = index_of(bag, source)
    parts = {}
    for sign in (*bag.streams.signs_of(source), "."):
        rows = []
        for index, place, rests, factor in led(bag, items, source):
            if rests[at].startswith(sign):
                rows.append((index, place, (*rests[:at], rests[at][1:], *rests[at + 1:]), factor))
        if rows:
            parts["end" if sign == "." else sign] = tuple(sorted(rows))
    return parts


def stripped(items):
    """The stripped sum."""
    if not items:
        return ()
    lengths = []
    for words in zip(*[item[2] for item in items]):
        lengths.append(max(n for n in range(len(words[0]) + 1) if all(word.startswith(words[0][:n]) for word in words)))
    return tuple(
        (index, place, tuple(rest[n:] for rest, n in zip(rests, lengths)), factor)
        for index, place, rests, factor in items
    )


def ends(bag, items):
    """A dict from the rests at done places to the sums of the factors, where these are not 0."""
    done, left = [], list(items)
    while left:
        item = left.pop()
        if bag.pairs[item[0]][0][item[1]] == ("done",):
            done.append(item)
        else:
            left.extend(replaced(bag, item))
    found = {rests: sum(item[3] for item in done if item[2] == rests) for rests in sorted({item[2] for item in done})}
    return {rests: factor for rests, factor in found.items() if factor}


def all_ways(bag, items, most):
    """A dict from what is taken and put, behind the rests, to the sums of the factors, for at most so many signs."""
    found, left = {}, list(items)
    while left:
        item = left.pop()
        if len("".join(item[2])) > most:
            continue
        if bag.pairs[item[0]][0][item[1]] == ("done",):
            found[item[2]] = found.get(item[2], 0) + item[3]
        else:
            left.extend(replaced(bag, item))
    return {words: factor for words, factor in found.items() if factor}


def is_closed(bag, table, first):
    """Whether a dict from sums to sources, or None, is closed; the first sum is given."""
    if first and stripped(first) not in table:
        return False
    names = [name for name, _ in bag.streams.sources]
    for items, source in table.items():
        if not items or stripped(items) != items:
            return False
        if source is None:
            if any(is_open(bag, item, name) for item in items for name in names) or ends(bag, items):
                return False
        elif not can_lead(bag, items, source):
            return False
        elif not all(stripped(part) in table for part in split(bag, items, source).values()):
            return False
    return True
