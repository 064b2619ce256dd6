"""Runs by their steps: places without the either places between them, and how many runs have how many steps."""

from fewersteps.base.values import check_number
from fewersteps.books.program import check_program
from fewersteps.errors import TooMany

MAX_FLOW = 20000

MAX_MANY = 200


def solid_starts(program):
    """A dict from solid places to the numbers of ways from place 0, where these are not 0."""
    check_program(program)
    return solid_ways(program)[0]


def solid_moves(program):
    """A dict from all solid places to a tuple of their steps: (stream, sign or "end", ways to solid places)."""
    check_program(program)
    ways = solid_ways(program)
    return {at: _solid_steps(place, ways) for at, place in enumerate(program.places) if ways[at] == {at: 1}}


def indexed_moves(program):
    """The solid moves, in lists, with the indices of the streams among all streams instead of the names."""
    names = program.streams.names
    moves = solid_moves(program)
    return {at: [(names.index(stream), sign, nexts) for stream, sign, nexts in moves[at]] for at in moves}


def solid_ways(program):
    """A dict from all places to the ways from them, through either places alone, to solid places."""
    places = program.places
    ways = {}
    for at, place in enumerate(places):
        if place[0] != "either":
            ways[at] = {at: 1} if program.is_of_use(at) else {}
    left = [at for at, place in enumerate(places) if place[0] == "either"]
    while left:
        for at in left:
            behind = places[at][1]
            if all([to in ways for to in behind]):
                ways[at] = _added([ways[to] for to in behind])
        # Either places lead to each other without a way back, so that each round finds the ways of some.
        left = [at for at in left if at not in ways]
    return ways


def _added(tables):
    """A dict from the keys of all tables, ascending, to their numbers added up."""
    total = {}
    for table in tables:
        for key, many in table.items():
            total[key] = total.get(key, 0) + many
    return {key: total[key] for key in sorted(total)}


def _solid_steps(place, ways):
    """The steps of a solid place that lead to solid places."""
    if place[0] == "take":
        steps = [(place[1], step, to) for step, to in place[2].items()]
    elif place[0] == "put":
        steps = [(place[1], place[2], place[3])]
    else:
        steps = []
    return tuple([(stream, sign, dict(ways[to])) for stream, sign, to in steps if ways[to]])


def runs_by_steps(program, many):
    """The tuple of the numbers of runs with just 0, 1, .. steps, with so many entries."""
    check_program(program)
    check_number(many, 0, MAX_MANY)
    return tuple(counted_runs(program, many))


def flow(program, many):
    """The number of runs with fewer than so many steps."""
    check_program(program)
    check_number(many, 0, MAX_MANY)
    return sum(counted_runs(program, many))


def counted_runs(program, many):
    """The list of the numbers of runs with just 0, 1, .. steps, with any number of entries."""
    moves = solid_moves(program)
    leads = {at: _added([nexts for stream, sign, nexts in moves[at]]) for at in moves}
    now = solid_starts(program)
    counts = []
    for _ in range(many):
        counts.append(sum([runs for at, runs in now.items() if not moves[at]]))
        now = _one_step_on(leads, now)
    return counts


def _one_step_on(leads, now):
    """A dict from the places where the runs at these places stand one step later to how many stand there."""
    later = {}
    for at, runs in now.items():
        for to, ways in leads[at].items():
            later[to] = later.get(to, 0) + runs * ways
    return later


def short_runs(program, many):
    """A dict from all pairs (content, filling) of runs with fewer than so many steps to their numbers."""
    check_program(program)
    check_number(many, 0, MAX_MANY)
    if flow(program, many) > MAX_FLOW:
        raise TooMany(MAX_FLOW)
    return runs_below(program, many)


def runs_below(program, many):
    """What `short_runs` returns, for any number of steps."""
    moves = indexed_moves(program)
    least = _least_steps(moves)
    words = ("",) * len(program.streams.names)
    now = {(at, words): runs for at, runs in solid_starts(program).items() if least[at] < many}
    found = {}
    for left in range(many - 1, -1, -1):
        for (at, words), runs in now.items():
            if not moves[at]:
                found[words] = found.get(words, 0) + runs
        now = _grown(moves, least, now, left)
    sources = len(program.streams.sources)
    return {(words[:sources], words[sources:]): found[words] for words in sorted(found)}


def _grown(moves, least, now, left):
    """The dict from (place, words of all streams) to numbers of runs one step later.

    Places from which no run can end in time are left out; `left` is how many steps can be made from now on.
    """
    later = {}
    for (at, words), runs in now.items():
        for index, sign, nexts in moves[at]:
            grown = words
            if sign != "end":
                grown = words[:index] + (words[index] + sign,) + words[index + 1:]
            for to, ways in nexts.items():
                if least[to] < left:
                    later[(to, grown)] = later.get((to, grown), 0) + runs * ways
    return later


def fewest_steps(program):
    """The least number of steps of a run, or None if there is none."""
    check_program(program)
    starts = solid_starts(program)
    if not starts:
        return None
    least = _least_steps(solid_moves(program))
    return min([least[at] for at in starts])


def _least_steps(moves):
    """A dict from the solid places to the least numbers of steps from them to a done place."""
    least = {at: 0 for at in moves if not moves[at]}
    steps = 0
    while len(least) < len(moves):
        steps += 1
        fresh = [at for at in moves if at not in least and _comes_to(moves[at], least)]
        for at in fresh:
            least[at] = steps
    return least


def _comes_to(steps, known):
    """Whether some of the steps leads to a place that is known."""
    return any([to in known for stream, sign, nexts in steps for to in nexts])


def count_runs(program, content, filling):
    """The number of a content and a filling with words of any length."""
    steps = program.streams.steps_of(content, filling)
    return count_from(indexed_moves(program), solid_starts(program), content + filling, steps)


def count_from(moves, starts, words, steps):
    """How many runs from these solid places, each with its number of ways, take and put just these words.

    All such runs have the same number of steps, which is given.
    """
    met = (0,) * len(words)
    now = {(at, met): runs for at, runs in starts.items()}
    for _ in range(steps):
        now = _later_with(moves, words, now)
    # All runs that go on with these words have the same number of steps, so that just these are at their ends.
    return sum([runs for (at, met), runs in now.items() if not moves[at]])


def _later_with(moves, words, now):
    """The dict from (place, how much of the words is behind) to numbers of runs one step later."""
    later = {}
    for (at, met), runs in now.items():
        for index, sign, nexts in moves[at]:
            there = met[index]
            if words[index][there:there + 1] != ("" if sign == "end" else sign):
                continue
            behind = met if sign == "end" else met[:index] + (there + 1,) + met[index + 1:]
            for to, ways in nexts.items():
                later[(to, behind)] = later.get((to, behind), 0) + runs * ways
    return later


def list_fillings(program, content, most):
    """A dict from all fillings of runs for this content to their numbers; TooMany(most) if there are more."""
    taken = (0,) * len(content)
    starts = [(None, "", (at, taken), ways) for at, ways in solid_starts(program).items()]
    found = _gathered(starts, _fillings_behind(program, content, starts, most), most)
    return {filling: found[filling] for filling in sorted(found)}


def _fillings_behind(program, content, starts, most):
    """A dict from the states (place, how much of the words is taken) that runs come to, to what is put from there.

    What is put is a dict from fillings to numbers of runs.
    """
    moves = indexed_moves(program)
    nothing = ("",) * len(program.streams.sinks)
    known = {}
    waiting = [state for sink, sign, state, ways in starts]
    while waiting:
        state = waiting.pop()
        steps = _steps_from(moves, content, state)
        left = [behind for sink, sign, behind, ways in steps if behind not in known]
        if left:
            waiting.extend([state] + left)
        elif state not in known:
            known[state] = _gathered(steps, known, most) if moves[state[0]] else {nothing: 1}
    return known


def _steps_from(moves, content, state):
    """The steps (index of the sink or None, its sign, next state, number of ways) from a state."""
    at, taken = state
    steps = []
    for index, sign, nexts in moves[at]:
        if index >= len(content):
            steps.extend([(index - len(content), sign, (to, taken), ways) for to, ways in nexts.items()])
            continue
        there = taken[index]
        if content[index][there:there + 1] == ("" if sign == "end" else sign):
            behind = taken if sign == "end" else taken[:index] + (there + 1,) + taken[index + 1:]
            steps.extend([(None, "", (to, behind), ways) for to, ways in nexts.items()])
    return steps


def _gathered(steps, known, most):
    """What is put by all these steps and from the states behind them."""
    found = {}
    for sink, sign, state, ways in steps:
        for rest, runs in known[state].items():
            filling = rest
            if sink is not None:
                filling = rest[:sink] + (sign + rest[sink],) + rest[sink + 1:]
            found[filling] = found.get(filling, 0) + runs * ways
    # Runs come to each state that is looked at, so that each has at most as many fillings as the content.
    if len(found) > most:
        raise TooMany(most)
    return found
