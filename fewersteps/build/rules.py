"""Rules that words of a stream keep or not, and programs of which the runs that keep a rule are left."""

from fewersteps.base.streams import is_sign, is_signs, is_word
from fewersteps.base.values import check_number, is_between
from fewersteps.books.places import LOST, next_places, renumbered, trimmed_places
from fewersteps.books.program import MAX_PLACES, check_program, made_program
from fewersteps.errors import InvalidOperation, InvalidRule, InvalidWord, TooMany

MAX_STATES = 6

MAX_RULES = 4


def _are_states(signs, value):
    """Whether the value is the states of a rule for these signs."""
    if not isinstance(value, tuple) or not 1 <= len(value) <= MAX_STATES:
        return False
    return all([_is_state(signs, state, len(value)) for state in value])


def _is_state(signs, value, many):
    """Whether the value is a state of a rule with so many states."""
    if not isinstance(value, tuple) or len(value) != 2:
        return False
    if not isinstance(value[0], dict) or not isinstance(value[1], bool):
        return False
    return all([is_sign(signs, sign) and is_between(to, 0, many - 1) for sign, to in value[0].items()])


def _check_signs(value):
    """Raise InvalidRule if the value is no signs of a stream."""
    if not is_signs(value):
        raise InvalidRule("these are no signs of a stream")


def _is_part(signs, value):
    """Whether the value is an ascending string of some of the signs, perhaps of none."""
    return is_word(signs, value) and all([low < high for low, high in zip(value, value[1:])])


def _beginnings(words):
    """With what the words begin, by lengths, then ascending; TooMany if these are too many for a rule."""
    # A long word begins in too many ways by itself, and is not taken apart.
    if any([len(word) >= MAX_STATES for word in words]):
        raise TooMany(MAX_STATES)
    found = {"": True}
    for word in words:
        for length in range(1, len(word) + 1):
            found[word[:length]] = True
    if len(found) > MAX_STATES:
        raise TooMany(MAX_STATES)
    return [word for length in range(MAX_STATES) for word in sorted(found) if len(word) == length]


def _reached(signs, table, first):
    """The states that moves reach from the first one, by a dict from keys to states whose moves lead to keys."""
    order = [first]
    at = 0
    while at < len(order):
        moves = table[order[at]][0]
        for sign in signs:
            if sign in moves and moves[sign] not in order:
                order.append(moves[sign])
        at += 1
    if len(order) > MAX_STATES:
        raise TooMany(MAX_STATES)
    return tuple([({sign: order.index(to) for sign, to in table[key][0].items()}, table[key][1]) for key in order])


def _both(one, other):
    """The state whose moves are those that two states have both, which lead to pairs, and which is good if both are."""
    moves = {sign: (to, other[0][sign]) for sign, to in one[0].items() if sign in other[0]}
    return (moves, one[1] and other[1])


def _opposite(signs, state, lost):
    """The state that is good if this one is not, with a move for each sign, to the lost one where it had none."""
    return ({sign: state[0].get(sign, lost) for sign in signs}, not state[1])


class Rule:
    """A rule for words of these signs, with one to six states; it never changes."""

    def __init__(self, signs, states):
        if not is_signs(signs) or not _are_states(signs, states):
            raise InvalidRule("a rule has one to six states for the signs of a stream")
        self._signs = signs
        self._states = tuple([({sign: moves[sign] for sign in sorted(moves)}, good) for moves, good in states])

    @classmethod
    def of_words(cls, signs, words):
        """A rule that just these words keep."""
        _check_signs(signs)
        if not isinstance(words, tuple) or not all([is_word(signs, word) for word in words]):
            raise InvalidWord("these are not a tuple of words of these signs")
        order = _beginnings(words)
        longer = [{sign: order.index(word + sign) for sign in signs if word + sign in order} for word in order]
        return cls(signs, tuple([(moves, word in words) for moves, word in zip(longer, order)]))

    @classmethod
    def counting(cls, signs, counted, by, rest):
        """A rule that words keep whose number of counted signs, divided by this number, leaves the rest."""
        _check_signs(signs)
        if not _is_part(signs, counted):
            raise InvalidWord("what is counted is an ascending string of some of the signs")
        check_number(by, 1, MAX_STATES)
        check_number(rest, 0, by - 1)
        nexts = [(at + 1) % by for at in range(by)]
        moves = [{sign: nexts[at] if sign in counted else at for sign in signs} for at in range(by)]
        return cls(signs, tuple([(moves[at], at == rest) for at in range(by)]))

    @property
    def signs(self):
        """The signs of the words."""
        return self._signs

    @property
    def states(self):
        """The states, pairs of a dict of moves and whether the state is good."""
        return tuple([(dict(moves), good) for moves, good in self._states])

    def __call__(self, word):
        if not is_word(self._signs, word):
            raise InvalidWord("this is no word of these signs")
        return self._is_kept_by(word)

    def _is_kept_by(self, word):
        """Whether the word of these signs keeps the rule."""
        at = 0
        for sign in word:
            moves = self._states[at][0]
            if sign not in moves:
                return False
            at = moves[sign]
        return self._states[at][1]

    def __contains__(self, value):
        return is_word(self._signs, value) and self._is_kept_by(value)

    def _check_other(self, other):
        """Raise InvalidRule if the other value is no rule for the same signs."""
        if not isinstance(other, Rule) or other._signs != self._signs:
            raise InvalidRule("this is no rule for the same signs")

    def __and__(self, other):
        self._check_other(other)
        table = {}
        for at, state in enumerate(self._states):
            for to, there in enumerate(other._states):
                table[(at, to)] = _both(state, there)
        return Rule(self._signs, _reached(self._signs, table, (0, 0)))

    def __or__(self, other):
        self._check_other(other)
        return (self.negated() & other.negated()).negated()

    def negated(self):
        """The rule that just the other words keep."""
        lost = len(self._states)
        states = self._states + (({}, False),)
        table = {at: _opposite(self._signs, state, lost) for at, state in enumerate(states)}
        return Rule(self._signs, _reached(self._signs, table, 0))

    def __eq__(self, other):
        return isinstance(other, Rule) and self._signs == other._signs and self._states == other._states

    def __len__(self):
        return len(self._states)

    def __str__(self):
        return f"rule of {len(self._states)} states for {self._signs}"


def kept(program, name, rule):
    """The trimmed program with the runs that are left if the word of this stream has to keep the rule."""
    check_program(program)
    _check_rule(program.streams.signs_of(name), rule)
    if len(program) * len(rule) > MAX_PLACES:
        raise TooMany(MAX_PLACES)
    states = rule.states
    places = [_kept_place(place, name, states, at) for place in program.places for at in range(len(states))]
    return made_program(program.streams, trimmed_places(program.streams, places, 0))


def _check_rule(signs, rule):
    """Raise InvalidRule if this is no rule for these signs."""
    if not isinstance(rule, Rule) or rule.signs != signs:
        raise InvalidRule("this is no rule for these signs")


def _kept_place(place, name, states, at):
    """The place of the pair of a place and the state with this index; it leads to the numbers of such pairs."""
    many = len(states)
    moves, good = states[at]
    if place[0] == "take" and place[1] == name:
        behind = {step: to * many + moves[step] for step, to in place[2].items() if step in moves}
        if good and "end" in place[2]:
            behind["end"] = place[2]["end"] * many + at
        return ("take", name, behind)
    if place[0] == "put" and place[1] == name:
        return ("put", name, place[2], place[3] * many + moves[place[2]]) if place[2] in moves else LOST
    # Where the rule is about a source, its end was met in a good state, which is still the state.
    if place[0] == "done" and not good:
        return LOST
    return renumbered(place, {to: to * many + at for to in next_places(place)})


def first_unparted(rules):
    """The first word, by lengths, then ascending, that keeps none or more than one of the rules, or None."""
    _check_rules(rules)
    return _unparted_word(rules)


def _check_rules(rules):
    """Raise InvalidRule if these are not a tuple of one to four rules for the same signs."""
    if not isinstance(rules, tuple) or not 1 <= len(rules) <= MAX_RULES:
        raise InvalidRule("these are not a tuple of one to four rules")
    for rule in rules:
        if not isinstance(rule, Rule) or rule.signs != rules[0].signs:
            raise InvalidRule("these are not rules for the same signs")


def _unparted_word(rules):
    """What `first_unparted` returns, for rules that go with each other."""
    tables = [rule.states for rule in rules]
    waiting = [(0,) * len(rules)]
    words = {waiting[0]: ""}
    at = 0
    # Words come by lengths, then ascending, so that the first one that leads to some states stands for all others.
    while at < len(waiting):
        now = waiting[at]
        at += 1
        if len([state for state in _states_at(tables, now) if state[1]]) != 1:
            return words[now]
        for sign in rules[0].signs:
            later = tuple([state[0].get(sign) for state in _states_at(tables, now)])
            if later not in words:
                words[later] = words[now] + sign
                waiting.append(later)
    return None


def _states_at(tables, now):
    """The state of each of the rules with these indices of states, where None stands for a lost word."""
    return [({}, False) if at is None else states[at] for states, at in zip(tables, now)]


def cases(program, name, rules):
    """The programs of the runs that keep each of the rules, of which each word keeps just one."""
    check_program(program)
    signs = program.streams.signs_of(name)
    _check_rules(rules)
    _check_rule(signs, rules[0])
    if _unparted_word(rules) is not None:
        raise InvalidOperation("a word keeps none or more than one of the rules")
    return tuple([kept(program, name, rule) for rule in rules])
