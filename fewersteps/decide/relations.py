"""Which integer multiples of programs add up to nothing."""

from fewersteps.algebra.bags import Bag, check_flow
from fewersteps.base.streams import check_content, check_filling, is_pair
from fewersteps.base.values import is_between, is_integer
from fewersteps.books.flows import count_runs, runs_below
from fewersteps.books.program import check_program
from fewersteps.decide.rows import eliminated, is_singular, product_of, reduced
from fewersteps.errors import InvalidContent, InvalidOperation, InvalidProgram

MAX_RELATED = 6


def relations(programs):
    """The basis of the relations between the programs."""
    _check_related(programs)
    return _basis_of(programs)


def rank(programs):
    """The number of programs less the number of rows of the basis."""
    basis = relations(programs)
    return len(programs) - len(basis)


def _check_programs(programs):
    """Raise InvalidProgram if these are not a tuple of one to six programs."""
    if not isinstance(programs, tuple) or not 1 <= len(programs) <= MAX_RELATED:
        raise InvalidProgram("these are not a tuple of one to six programs")
    for program in programs:
        check_program(program)


def _check_together(programs):
    """Raise the error that is due if programs do not have the same streams, or have too many short runs together."""
    if not all([program.streams == programs[0].streams for program in programs]):
        raise InvalidOperation("the streams are not equal")
    check_flow(whole_bag(programs).flow)


def _check_related(programs):
    """Raise the error that is due if the relations between these cannot be asked for."""
    _check_programs(programs)
    _check_together(programs)


def whole_bag(programs):
    """A bag of all programs, which has the bound and the flow that count for them."""
    return Bag(programs[0].streams, tuple([(program, 1) for program in programs]))


def _columns(programs):
    """A dict from the pairs (content, filling) of the short runs to the tuples of their numbers."""
    bound = whole_bag(programs).bound
    tables = [runs_below(program, bound) for program in programs]
    pairs = {pair: True for numbers in tables for pair in numbers}
    return {pair: tuple([numbers.get(pair, 0) for numbers in tables]) for pair in pairs}


def _basis_of(programs):
    """The basis, of programs whose relations can be asked for."""
    kept, rows = eliminated(_columns(programs), len(programs))
    return reduced(rows, len(programs))


def is_relation(programs, value):
    """Whether the value is a relation between the programs."""
    _check_related(programs)
    if not isinstance(value, tuple) or len(value) != len(programs):
        return False
    if not all([is_integer(factor) for factor in value]):
        return False
    return all([product_of(value, numbers) == 0 for numbers in _columns(programs).values()])


def relation_paper(programs):
    """A tuple (basis, indices, runs) that shows that the basis has all relations."""
    _check_related(programs)
    kept, rows = eliminated(_columns(programs), len(programs))
    basis = reduced(rows, len(programs))
    # No relation is about these programs alone, as each one has an entry where a row of the basis begins.
    begins = [_first_entry(row) for row in basis]
    indices = tuple([at for at in range(len(programs)) if at not in begins])
    return (basis, indices, tuple(kept))


def _first_entry(row):
    """The index of the first entry that is not 0."""
    return [at for at, entry in enumerate(row) if entry != 0][0]


def is_relation_paper(programs, value):
    """Whether the value is such a tuple."""
    basis = relations(programs)
    if not isinstance(value, tuple) or len(value) != 3 or not _is_basis(basis, value[0]):
        return False
    many = len(programs) - len(basis)
    if not _are_indices(value[1], len(programs), many) or not _are_short(programs, value[2], many):
        return False
    table = [[count_runs(programs[at], pair[0], pair[1]) for at in value[1]] for pair in value[2]]
    return not is_singular(table)


def _is_basis(basis, value):
    """Whether the value is this tuple of tuples of integers; True is not 1."""
    if not isinstance(value, tuple) or len(value) != len(basis):
        return False
    return all([_is_row(row, given) for row, given in zip(basis, value)])


def _is_row(row, value):
    """Whether the value is this tuple of integers; True is not 1."""
    if not isinstance(value, tuple) or len(value) != len(row):
        return False
    return all([is_between(given, entry, entry) for entry, given in zip(row, value)])


def _are_indices(value, below, many):
    """Whether the value is an ascending tuple of so many indices below this number."""
    if not isinstance(value, tuple) or len(value) != many:
        return False
    if not all([is_between(at, 0, below - 1) for at in value]):
        return False
    return all([low < high for low, high in zip(value, value[1:])])


def _are_short(programs, value, many):
    """Whether the value is a tuple of so many different pairs with fewer steps than the bound."""
    if not isinstance(value, tuple) or len(value) != many:
        return False
    streams = programs[0].streams
    if not all([is_pair(streams, pair) for pair in value]):
        return False
    bound = whole_bag(programs).bound
    steps = [streams.steps_of(content, filling) for content, filling in value]
    return all([made < bound for made in steps]) and len(set(value)) == many


def expressed(programs, program):
    """A tuple of factors with which the bag of the programs is alike to the program, or None."""
    _check_programs(programs)
    check_program(program)
    _check_together(programs)
    everything = (program, *programs)
    _check_together(everything)
    basis = _basis_of(everything)
    # The first row alone can begin at the program, and its entry there divides that of all other relations.
    if not basis or basis[0][0] != 1:
        return None
    return tuple([-factor for factor in basis[0][1:]])


def is_independent(programs):
    """Whether the rank is the number of programs."""
    return not relations(programs)


def number_table(programs, runs):
    """For each of the pairs (content, filling) of a tuple, the tuple of the numbers of the programs."""
    _check_related(programs)
    if not isinstance(runs, tuple):
        raise InvalidContent("these are not a tuple of pairs of a content and a filling")
    for pair in runs:
        _check_pair(programs[0].streams, pair)
    return tuple([tuple([count_runs(program, pair[0], pair[1]) for program in programs]) for pair in runs])


def _check_pair(streams, pair):
    """Raise InvalidContent if this is no pair of a content and a filling that can be passed."""
    if not is_pair(streams, pair):
        raise InvalidContent("this is no pair of a content and a filling")
    check_content(streams, pair[0])
    check_filling(streams, pair[1])
