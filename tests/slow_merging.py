"""Alike places, found by counting all short tails, and programs whose places point to each other."""

from tests import oracle
from tests.slow_exchanges import lead_to, nodes_of, places_of, reached


def classes(program):
    """The classes of alike places."""
    tables = [(program.ended(at), oracle.tails(program, at, program.size)) for at in range(len(program))]
    return tuple(sorted({tuple(to for to, other in enumerate(tables) if other == table) for table in tables}))


def unlike(program, one, other):
    """All tails with unlike numbers and at most as many steps as the size, with their steps, by these."""
    tables = [oracle.tails(program, at, program.size) for at in (one, other)]
    tails = [tail for tail in {**tables[0], **tables[1]} if tables[0].get(tail) != tables[1].get(tail)]
    open_sources = len(program.streams.sources) - len(program.ended(one))
    return sorted((len("".join(tail[0] + tail[1])) + open_sources, tail) for tail in tails)


def slim_places(program):
    """The places of the slim program."""
    nodes = nodes_of(program)
    first = nodes[0]
    # This also leaves out all that is of no use, so that some either places have fewer places than before.
    places_of(first, program.streams)
    for node in nodes:
        if node.kind == "either" and len(node.to) == 1:
            behind = node.nexts()[0]
            lead_to(nodes, node, behind)
            first = behind if first is node else first
    return places_of(first, program.streams)


def merged_places(slim):
    """The places of the slim program in which each place stands for all that are alike to it."""
    nodes = nodes_of(slim)
    for members in classes(slim):
        for at in members[1:]:
            lead_to(nodes, nodes[at], nodes[members[0]])
    order = reached(nodes[0])
    return places_of(order[0], slim.streams)
