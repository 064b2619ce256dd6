"""Programs built of others, as places that point to each other, straight from the words of the document."""

from tests.slow_exchanges import Node, places_of


def steps_of(place):
    """Pairs of a step of a place and the number of the next one."""
    if place[0] == "take":
        return list(place[2].items())
    if place[0] == "either":
        return list(enumerate(place[1]))
    return [(None, place[3])] if place[0] == "put" else []


def like(node, place, to):
    """Let the node do what the place does, and lead to these nodes."""
    node.kind = place[0]
    if place[0] in ("take", "put"):
        node.name = place[1]
    if place[0] == "put":
        node.sign = place[2]
    node.to = to


def graph(start, fill):
    """The node of the start; `fill` fills the node of a key, by a function that gives the nodes of other keys."""
    nodes, fresh = {}, [start]

    def node_of(key):
        if key not in nodes:
            nodes[key] = Node(None)
            fresh.append(key)
        return nodes[key]

    node_of(start)
    while fresh:
        key = fresh.pop()
        fill(nodes[key], key, node_of)
    return nodes[start]


def lose(node):
    """Let all runs be lost at the node."""
    node.kind, node.name, node.to = "take", None, []


def pipe(one, sink, other, source, streams):
    """The places of a pipe."""
    def fill(node, key, node_of):
        p, q = one[key[0]], other[key[1]]
        if p[0] != "done" and not (p[0] == "put" and p[1] == sink):
            like(node, p, [(step, node_of((to, key[1]))) for step, to in steps_of(p)])
        elif not (q[0] == "take" and q[1] == source):
            like(node, q, [(step, node_of((key[0], to))) for step, to in steps_of(q)])
        else:
            step, stays = ("end", key[0]) if p[0] == "done" else (p[2], p[3])
            if step in q[2]:
                node.kind, node.to = "either", [(0, node_of((stays, q[2][step])))]
            else:
                lose(node)

    return places_of(graph((0, 0), fill), streams)


def beside(one, other, streams):
    """The places of two programs beside each other."""
    def fill(node, key, node_of):
        program = (one, other)[key[0]]
        to = []
        for step, at in steps_of(program[key[1]]):
            done = key[0] == 0 and one[at] == ("done",)
            to.append((step, node_of((1, 0) if done else (key[0], at))))
        like(node, program[key[1]], to)

    return places_of(graph((0, 0), fill), streams)


def only(program, sinks, streams):
    """The places of a program that puts to these sinks alone."""
    def fill(node, at, node_of):
        like(node, program[at], [(step, node_of(to)) for step, to in steps_of(program[at])])
        if node.kind == "put" and node.name not in sinks:
            node.kind, node.name, node.sign = "either", None, None

    return places_of(graph(0, fill), streams)


def drained(program, name, signs, streams):
    """The places of a program that reads one more source."""
    def fill(node, at, node_of):
        if at == "end":
            node.kind = "done"
        elif program[at] == ("done",):
            like(node, ("take", name), [(sign, node) for sign in signs] + [("end", node_of("end"))])
        else:
            like(node, program[at], [(step, node_of(to)) for step, to in steps_of(program[at])])

    return places_of(graph(0, fill), streams)


def filled(program, source, word, streams):
    """The places of a program of which a source always has this word."""
    def fill(node, key, node_of):
        at, taken = key
        place = program[at]
        if place[0] != "take" or place[1] != source:
            like(node, place, [(step, node_of((to, taken))) for step, to in steps_of(place)])
            return
        step = "end" if taken == len(word) else word[taken]
        if step in place[2]:
            behind = taken if step == "end" else taken + 1
            node.kind, node.to = "either", [(0, node_of((place[2][step], behind)))]
        else:
            lose(node)

    return places_of(graph((0, 0), fill), streams)


def kept(program, name, rule, streams):
    """The places of a program of which the word of a stream has to keep a rule."""
    def fill(node, key, node_of):
        at, state = key
        place = program[at]
        moves, good = rule.states[state]
        own = place[0] in ("take", "put") and place[1] == name
        if place[0] == "done" and not streams.is_source(name) and not good:
            lose(node)
        elif place[0] == "put" and own:
            like(node, place, [(None, node_of((place[3], moves[place[2]])))] if place[2] in moves else [])
            if place[2] not in moves:
                lose(node)
        elif own:
            to = []
            for step, behind in steps_of(place):
                if step == "end" and good:
                    to.append((step, node_of((behind, state))))
                elif step in moves:
                    to.append((step, node_of((behind, moves[step]))))
            like(node, place, to)
        else:
            like(node, place, [(step, node_of((to, state))) for step, to in steps_of(place)])

    return places_of(graph((0, 0), fill), streams)
