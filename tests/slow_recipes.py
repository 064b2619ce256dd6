"""Recipes, by a grammar whose rules are tried all at once, and by places that point to each other."""

from tests.slow_exchanges import Node, reached

SHORT = ("put", "take", "each", "rest", "choose")


def rules(streams, left):
    """All ways to replace the first symbol of what is left, or None if it is a word."""
    symbol = left[0]
    sources, sinks = dict(streams.sources), dict(streams.sinks)
    if symbol == "STATEMENTS":
        return [(), ("STATEMENT", "STATEMENTS")]
    if symbol == "STATEMENT":
        found = [("put", sink, sign) for sink, signs in sinks.items() for sign in signs]
        found.extend(("rest", source) for source in sources)
        for source, signs in sources.items():
            found.append(("take", source, "(", ("ENTRIES", tuple(signs) + ("end",))))
            found.append(("each", source, "(", ("ENTRIES", tuple(signs))))
        for many in (2, 3, 4):
            found.append(("choose", "(", "STATEMENTS", *(("|", "STATEMENTS") * (many - 1)), ")"))
        return found
    if isinstance(symbol, tuple) and symbol[0] == "ENTRIES":
        found = []
        for at, label in enumerate(symbol[1]):
            rest = symbol[1][:at] + symbol[1][at + 1:]
            found.append((label, ":", "STATEMENTS", ")"))
            if rest:
                found.append((label, ":", "STATEMENTS", ",", ("ENTRIES", rest)))
        return found
    return None


def fault(streams, words):
    """The index of the first word that no recipe has behind those ahead of it, or None; words may be too few."""
    stacks = {("STATEMENTS",)}
    for at, word in enumerate(words):
        fresh, ready = list(stacks), set()
        seen = set(stacks)
        while fresh:
            stack = fresh.pop()
            if not stack:
                continue
            replaced = rules(streams, stack)
            if replaced is None:
                ready.add(stack)
                continue
            for row in replaced:
                longer = row + stack[1:]
                if longer not in seen:
                    seen.add(longer)
                    fresh.append(longer)
        stacks = {stack[1:] for stack in ready if stack[0] == word}
        if not stacks:
            return at
    if () in stacks or ("STATEMENTS",) in stacks:
        return None
    return len(words)


class Words:
    """Words that are read from the left, which are those of a recipe."""

    def __init__(self, words):
        self.words = list(words)
        self.at = 0

    def next(self):
        """The next word, or None."""
        word = self.words[self.at] if self.at < len(self.words) else None
        self.at += 1
        return word

    def statements(self):
        """A list of statements, as far as a word that is none."""
        found = []
        while self.at < len(self.words) and self.words[self.at] in SHORT:
            begins = self.at
            kind = self.next()
            name = None if kind == "choose" else self.next()
            sign = self.next() if kind == "put" else None
            parts = self.parts(kind) if kind in ("take", "each", "choose") else []
            found.append({"kind": kind, "name": name, "sign": sign, "parts": parts, "begins": begins, "stops": self.at})
        return found

    def parts(self, kind):
        """Triples (label, statements, their words) in parentheses."""
        found = []
        while self.next() != ")":
            label = None
            if kind != "choose":
                label = self.next()
                self.next()
            begins = self.at
            found.append((label, self.statements(), self.words[begins:self.at]))
            if self.words[self.at] == ")":
                self.at += 1
                return found
        raise AssertionError


def node_of(statements, behind, streams):
    """The node at which the statements begin, with the node behind them."""
    for statement in reversed(statements):
        node = Node({"put": "put", "choose": "either"}.get(statement["kind"], "take"), statement["name"])
        node.sign = statement["sign"]
        inner = node if statement["kind"] == "each" else behind
        heads = [(label, node_of(part, inner, streams)) for label, part, _ in statement["parts"]]
        if statement["kind"] == "put":
            node.to = [(None, behind)]
        elif statement["kind"] == "choose":
            node.to = [(at, head) for at, (_, head) in enumerate(heads)]
        elif statement["kind"] == "rest":
            node.to = [(sign, node) for sign in streams.signs_of(statement["name"])] + [("end", behind)]
        else:
            node.to = heads + ([("end", behind)] if statement["kind"] == "each" else [])
            node.to.sort(key=lambda pair: (pair[0] == "end", pair[0]))
        behind = node
    return behind


def places(streams, text):
    """The places of a recipe in the plain order, without those that are not reached, and how many those are."""
    statements = Words(text.split(" ") if text else []).statements()
    first = node_of(statements, Node("done"), streams)
    order = reached(first)
    found = []
    for node in order:
        to = [(step, order.index(behind)) for step, behind in node.to]
        if node.kind == "take":
            found.append(("take", node.name, dict(to)))
        elif node.kind == "put":
            found.append(("put", node.name, node.sign, to[0][1]))
        else:
            found.append(("either", tuple(at for _, at in to)) if node.kind == "either" else ("done",))
    return tuple(found), count(statements) + 1 - len(order)


def count(statements):
    """How many statements there are, also in parentheses."""
    return sum(1 + sum(count(part) for _, part, _ in statement["parts"]) for statement in statements)


def find_each(statements, index):
    """The `each` that begins at the word with this index, or None."""
    for statement in statements:
        if statement["kind"] == "each" and statement["begins"] == index:
            return statement
        for _, part, _ in statement["parts"]:
            found = find_each(part, index)
            if found:
                return found
    return None


def unrolled(text, index):
    """The text with an `each` unrolled, or None if there is none."""
    words = text.split(" ") if text else []
    each = find_each(Words(words).statements(), index)
    if each is None:
        return None
    whole = words[each["begins"]:each["stops"]]
    parts = [" ".join([label, ":", *inner, *whole]) for label, _, inner in each["parts"]]
    take = f"take {each['name']} ( {' , '.join(parts)} , end : )"
    return " ".join([*words[:each["begins"]], take, *words[each["stops"]:]])


def random_recipe(pick, streams, most, depth=3, ended=()):
    """Some statements, at most so many at once, whose sources have not ended; and the sources that end there."""
    words = []
    sources = [name for name, _ in streams.sources]
    for _ in range(pick.randrange(most + 1)):
        left = [name for name in sources if name not in ended]
        kind = pick.choice(SHORT if depth else ("put", "rest"))
        if kind == "put" and streams.sinks:
            sink, signs = pick.choice(streams.sinks)
            words += ["put", sink, pick.choice(signs)]
        elif kind == "rest" and left:
            source = pick.choice(left)
            words += ["rest", source]
            ended = (*ended, source)
        elif kind in ("take", "each") and left:
            source = pick.choice(left)
            labels = list(streams.signs_of(source)) + (["end"] if kind == "take" else [])
            labels = pick.sample(labels, pick.randrange(len(labels)) + 1)
            # What ends in parentheses has mostly ended behind them only on some ways, which is wrong.
            barred = tuple(sources) if pick.random() < 0.8 or "end" in labels else ended
            words += [kind, source, "("]
            for at, label in enumerate(labels):
                inner, _ = random_recipe(pick, streams, 2, depth - 1, barred)
                words += ([","] if at else []) + [label, ":", *inner]
            words.append(")")
            ended = (*ended, source) if kind == "each" or labels == ["end"] else ended
        elif kind == "choose":
            words += ["choose", "("]
            behind = tuple(sources) if pick.random() < 0.8 else ended
            for at in range(pick.randrange(3) + 2):
                inner, _ = random_recipe(pick, streams, 2, depth - 1, behind)
                words += (["|"] if at else []) + inner
            words.append(")")
    return words, ended


def random_text(pick, streams, most):
    """A text of a recipe, many of which are those of right programs."""
    words, ended = random_recipe(pick, streams, most)
    for name, _ in streams.sources:
        if name not in ended:
            words += ["rest", name]
    return " ".join(words)
