"""Exchanges done on places that point to each other, straight from the words of the document."""


class Node:
    """A place; `to` has pairs of a step (a sign, "end", or an index) and the next node, in their order."""

    def __init__(self, kind, name=None, sign=None, to=(), ended=()):
        self.kind, self.name, self.sign, self.to, self.ended = kind, name, sign, list(to), ended

    def nexts(self):
        """The nodes to which this one leads."""
        return [node for _, node in self.to]


def nodes_of(program):
    """The nodes of a program, by their numbers."""
    nodes = [Node(place[0], ended=program.ended(at)) for at, place in enumerate(program.places)]
    for node, place in zip(nodes, program.places):
        if place[0] == "take":
            node.name, node.to = place[1], [(step, nodes[to]) for step, to in place[2].items()]
        elif place[0] == "put":
            node.name, node.sign, node.to = place[1], place[2], [(None, nodes[place[3]])]
        elif place[0] == "either":
            node.to = [(at, nodes[to]) for at, to in enumerate(place[1])]
    return nodes


def reached(first):
    """All nodes to which ways lead from this one, by breadth."""
    found = [first]
    for node in found:
        found.extend(to for at, to in enumerate(node.nexts()) if to not in found and to not in node.nexts()[:at])
    return found


def places_of(first, streams):
    """The places of the trimmed program that begins at this node."""
    useful = [node for node in reached(first) if any(to.kind == "done" for to in reached(node))]
    if first not in useful:
        return (("take", streams.sources[0][0], {}),)
    for node in useful:
        node.to = [(step, to) for step, to in node.to if to in useful]
        if node.kind == "take":
            node.to.sort(key=lambda pair: (pair[0] == "end", pair[0]))
    order = reached(first)
    places = []
    for node in order:
        to = [(step, order.index(behind)) for step, behind in node.to]
        if node.kind == "take":
            places.append(("take", node.name, dict(to)))
        elif node.kind == "put":
            places.append(("put", node.name, node.sign, to[0][1]))
        else:
            places.append(("either", tuple(at for _, at in to)) if node.kind == "either" else ("done",))
    return tuple(places)


def lead_to(nodes, old, new):
    """Let all that leads to one node lead to another one."""
    for node in nodes:
        node.to = [(step, new if to is old else to) for step, to in node.to]


def alter(nodes, kind, p, rest):
    """Do the exchange, and return the node at which runs begin, or None if it is no exchange."""
    one = nodes[p]
    following = one.nexts()
    if kind == "delay" and one.kind == "put" and following[0].kind == "take":
        to = [(step, Node("put", one.name, one.sign, [(None, behind)])) for step, behind in following[0].to]
        one.kind, one.name, one.sign, one.to = "take", following[0].name, None, to
    elif kind == "advance" and one.kind == "take" and following and following[0].kind == "put" and (
            len({(node.kind, node.name, node.sign) for node in following}) == 1):
        take = Node("take", one.name, None, [(step, node.nexts()[0]) for step, node in one.to])
        one.kind, one.name, one.sign, one.to = "put", following[0].name, following[0].sign, [(None, take)]
    elif kind == "swap" and one.kind == "put" and following[0].kind == "put" and following[0].name != one.name:
        other = following[0]
        behind = Node("put", one.name, one.sign, other.to)
        one.name, one.sign, one.to = other.name, other.sign, [(None, behind)]
    elif kind == "cross" and one.kind == "take" and len({(node.kind, node.name) for node in following}) == 1 and (
            following[0].kind == "take" and following[0].name != one.name):
        entries = {step for node in following for step, _ in node.to}
        name, to = following[0].name, []
        for entry in entries:
            rows = [(step, dict(node.to)[entry]) for step, node in one.to if entry in dict(node.to)]
            to.append((entry, Node("take", one.name, None, rows)))
        one.name, one.to = name, to
    elif kind == "copy" and nodes[rest] in following:
        old = nodes[rest]
        new = Node(old.kind, old.name, old.sign, old.to)
        one.to = [(step, new if to is old else to) for step, to in one.to]
    elif kind == "join" and p < rest and equal(one, nodes[rest]):
        lead_to(nodes, nodes[rest], one)
    elif kind == "skip" and one.kind == "either" and len(following) == 1:
        lead_to(nodes, one, following[0])
        return following[0] if p == 0 else nodes[0]
    elif kind == "flat" and one.kind == "either" and rest < len(following) and following[rest].kind == "either" and (
            len(following) + len(following[rest].to) <= 5):
        one.to = list(enumerate(following[:rest] + following[rest].nexts() + following[rest + 1:]))
    elif kind == "turn" and one.kind == "either" and sorted(rest) == list(range(len(following))):
        one.to = list(enumerate(following[at] for at in rest))
    else:
        return None
    return nodes[0]


def equal(one, other):
    """Whether two nodes are equal places at which the same sources have ended."""
    if (one.kind, one.name, one.sign, one.ended) != (other.kind, other.name, other.sign, other.ended):
        return False
    return len(one.to) == len(other.to) and all(a[0] == b[0] and a[1] is b[1] for a, b in zip(one.to, other.to))


def behind(program, exchange):
    """The places behind an exchange, or None if it is none."""
    first = alter(nodes_of(program), exchange[0], exchange[1], exchange[2] if len(exchange) == 3 else None)
    return None if first is None else places_of(first, program.streams)
