"""Runs: how many there are, what they put, and runs that are gone move by move."""

from fewersteps.base.streams import MAX_WORD, check_content, check_filling, is_word
from fewersteps.base.values import check_count
from fewersteps.books.flows import count_runs, list_fillings
from fewersteps.books.program import check_program
from fewersteps.errors import InvalidOperation, InvalidWord, NothingToUndo, TooMany, UnknownName

MAX_CONTENT = 40
MAX_FILLINGS = 2000


def number_of_runs(program, content, filling):
    """The number of runs for this content with this filling."""
    check_program(program)
    check_content(program.streams, content)
    check_filling(program.streams, filling)
    return count_runs(program, content, filling)


def fillings(program, content):
    """A dict from all fillings of runs for this content to their numbers."""
    check_program(program)
    check_content(program.streams, content)
    if len("".join(content)) > MAX_CONTENT:
        raise TooMany(MAX_CONTENT)
    return list_fillings(program, content, MAX_FILLINGS)


class Run:
    """A run that is gone move by move, and back."""

    def __init__(self, program, content):
        check_program(program)
        check_content(program.streams, content)
        self._program = program
        self._content = content
        self._place = 0
        self._left = list(content)
        self._filling = ["" for _ in program.streams.sinks]
        self._moves = []
        self._trail = []

    @property
    def place(self):
        """The number of the place at which the run stands."""
        return self._place

    @property
    def left(self):
        """The content that is not taken."""
        return tuple(self._left)

    @property
    def filling(self):
        """What was put to the sinks."""
        return tuple(self._filling)

    @property
    def steps(self):
        """The number of steps that were made."""
        return len([move for move in self._moves if move[0] != "either"])

    @property
    def ways(self):
        """How many moves are possible."""
        place = self._program[self._place]
        if place[0] == "either":
            return len(place[1])
        return 0 if place[0] == "done" or self.is_lost() else 1

    @property
    def moves(self):
        """All moves that were made."""
        return tuple(self._moves)

    def is_done(self):
        """Whether the run stands at a done place."""
        return self._program[self._place] == ("done",)

    def is_lost(self):
        """Whether the run stands at a take without the entry that it needs."""
        place = self._program[self._place]
        return place[0] == "take" and self._step_of(place[1]) not in place[2]

    def _step_of(self, source):
        """The next sign of the source, or "end"."""
        word = self._left[self._program.streams.index_of(source)]
        return word[0] if word else "end"

    def go(self, way=0):
        """Make one move, and return it."""
        check_count(way)
        if way >= self.ways:
            raise InvalidOperation("there is no such way")
        place = self._program[self._place]
        self._trail.append(self._place)
        if place[0] == "take":
            move = self._take(place)
        elif place[0] == "put":
            move = self._put(place)
        else:
            move = ("either", way)
            self._place = place[1][way]
        self._moves.append(move)
        return move

    def _take(self, place):
        """Make the move of a take place."""
        index = self._program.streams.index_of(place[1])
        step = self._step_of(place[1])
        self._left[index] = self._left[index][1:]
        self._place = place[2][step]
        return ("end", place[1]) if step == "end" else ("take", place[1], step)

    def _put(self, place):
        """Make the move of a put place."""
        index = self._program.streams.index_of(place[1])
        self._filling[index] = self._filling[index] + place[2]
        self._place = place[3]
        return ("put", place[1], place[2])

    def go_on(self):
        """Make moves as long as there is just one way, and return how many."""
        before = len(self._moves)
        while self.ways == 1:
            self.go()
        return len(self._moves) - before

    def undo(self, *, many=1):
        """Take the last moves back, and return them, the last one first."""
        check_count(many)
        if many > len(self._moves):
            raise NothingToUndo(many)
        taken = []
        for _ in range(many):
            taken.append(self._take_back())
        return tuple(taken)

    def _take_back(self):
        """Take the last move back, and return it."""
        move = self._moves.pop()
        self._place = self._trail.pop()
        if move[0] in ("take", "put"):
            index = self._program.streams.index_of(move[1])
            if move[0] == "take":
                self._left[index] = move[2] + self._left[index]
            else:
                self._filling[index] = self._filling[index][:-1]
        return move

    def twin(self):
        """An equal run that goes on by itself."""
        run = Run(self._program, self._content)
        run._place = self._place
        run._left = list(self._left)
        run._filling = list(self._filling)
        run._moves = list(self._moves)
        run._trail = list(self._trail)
        return run

    def __len__(self):
        return len(self._moves)

    def __eq__(self, other):
        return (
            isinstance(other, Run) and self._program == other._program and self._content == other._content
            and self._moves == other._moves
        )

    def __str__(self):
        return f"run at {self._place}: {self.steps} steps, {self.ways} moves left"


class Feeder:
    """A plain program that runs on sources whose words come in pieces."""

    def __init__(self, program):
        check_program(program)
        if not program.is_plain():
            raise InvalidOperation("the program is not plain")
        self._program = program
        self._came = ["" for _ in program.streams.sources]
        self._ended = [False for _ in program.streams.sources]
        self._taken = [0 for _ in program.streams.sources]
        self._result = ["" for _ in program.streams.sinks]
        self._place = 0
        self._calls = []
        self._go_on()

    @property
    def came(self):
        """The content that came."""
        return tuple(self._came)

    @property
    def has_ended(self):
        """The names of the sources whose ends came, in the order of the sources."""
        names = [name for name, signs in self._program.streams.sources]
        return tuple([name for name, ended in zip(names, self._ended) if ended])

    @property
    def result(self):
        """What was put to the sinks so far."""
        return tuple(self._result)

    @property
    def waits_for(self):
        """The name of the source that is to be taken, or None if the feeder is done or lost."""
        place = self._program[self._place]
        return place[1] if place[0] == "take" and self._step_of(place[1]) is None else None

    @property
    def place(self):
        """The number of the place at which the feeder stands."""
        return self._place

    def is_done(self):
        """Whether the feeder stands at a done place."""
        return self._program[self._place] == ("done",)

    def is_lost(self):
        """Whether the feeder stands at a take without the entry that it needs."""
        return not self.is_done() and self.waits_for is None

    def _step_of(self, source):
        """The next sign of the source that came, "end" if its end is next, or None if neither came."""
        index = self._program.streams.index_of(source)
        word = self._came[index]
        if self._taken[index] < len(word):
            return word[self._taken[index]]
        return "end" if self._ended[index] else None

    def feed(self, source, word):
        """Let these signs of the source come, and return what the sinks get."""
        index = self._index_of(source)
        if not is_word(self._program.streams.signs_of(source), word) or len(word) > MAX_WORD:
            raise InvalidWord("this is no word of the source with at most 200 signs")
        self._begin_call(index)
        self._came[index] = self._came[index] + word
        return self._go_on()

    def end(self, source):
        """Let the end of the source come, and return what the sinks get."""
        index = self._index_of(source)
        self._begin_call(index)
        self._ended[index] = True
        return self._go_on()

    def _index_of(self, source):
        """The index of the source of this name."""
        if not self._program.streams.is_source(source):
            raise UnknownName(source)
        return self._program.streams.index_of(source)

    def _begin_call(self, index):
        """Keep how all stood ahead of a call for this source, whose end must not have come."""
        if self._ended[index]:
            raise InvalidOperation("the end of the source has come")
        came = [len(word) for word in self._came]
        result = [len(word) for word in self._result]
        self._calls.append((came, tuple(self._ended), tuple(self._taken), result, self._place))

    def _go_on(self):
        """Make steps as long as this can be done, and return what the sinks get."""
        got = [[] for _ in self._result]
        place = self._program[self._place]
        while self._can_go(place):
            if place[0] == "put":
                got[self._program.streams.index_of(place[1])].append(place[2])
                self._place = place[3]
            else:
                self._take(place)
            place = self._program[self._place]
        words = tuple(["".join(signs) for signs in got])
        self._result = [before + word for before, word in zip(self._result, words)]
        return words

    def _can_go(self, place):
        """Whether the step of this place, at which the feeder stands, can be made."""
        return place[0] == "put" or (place[0] == "take" and self._step_of(place[1]) in place[2])

    def _take(self, place):
        """Make the step of a take place."""
        index = self._program.streams.index_of(place[1])
        step = self._step_of(place[1])
        if step != "end":
            self._taken[index] = self._taken[index] + 1
        self._place = place[2][step]

    def undo(self, *, many=1):
        """Make all as if the last calls had not been made, and return the ends of words that the sinks lose."""
        check_count(many)
        if many > len(self._calls):
            raise NothingToUndo(many)
        before = self._result
        for _ in range(many):
            self._take_back()
        return tuple([word[len(kept):] for word, kept in zip(before, self._result)])

    def _take_back(self):
        """Make all as if the last call had not been made."""
        came, ended, taken, result, place = self._calls.pop()
        self._came = [word[:length] for word, length in zip(self._came, came)]
        self._ended = list(ended)
        self._taken = list(taken)
        self._result = [word[:length] for word, length in zip(self._result, result)]
        self._place = place

    def twin(self):
        """An equal feeder that goes on by itself."""
        feeder = Feeder(self._program)
        feeder._came = list(self._came)
        feeder._ended = list(self._ended)
        feeder._taken = list(self._taken)
        feeder._result = list(self._result)
        feeder._place = self._place
        feeder._calls = list(self._calls)
        return feeder

    def __len__(self):
        return len(self._calls)

    def __eq__(self, other):
        return (
            isinstance(other, Feeder) and self._program == other._program and self._came == other._came
            and self._ended == other._ended
        )

    def __str__(self):
        return f"feeder at {self._place}: {self._state()}"

    def _state(self):
        """What the text of the feeder says of where it stands."""
        if self.is_done():
            return "done"
        return "lost" if self.is_lost() else f"waits for {self.waits_for}"
