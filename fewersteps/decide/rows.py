"""Rows of integers: what is done with them by adding integer multiples of some to others."""


def product_of(row, column):
    """The sum of the products of the entries of two rows."""
    return sum([one * other for one, other in zip(row, column)])


def eliminated(columns, many):
    """The keys of the first columns of which none depends on those ahead of it, and what all columns leave.

    What they leave are rows of so many integers, of which all rows whose product with each column is 0 are sums of
    integer multiples, each in just one way.
    """
    rows = [[int(at == to) for to in range(many)] for at in range(many)]
    kept = []
    for key, column in columns.items():
        worths = [product_of(row, column) for row in rows]
        if any(worths):
            rows = _swept(rows, worths)[1:]
            kept.append(key)
    return kept, rows


def reduced(rows, many):
    """The rows that give the same sums of multiples as these rows, in the form of which there is just one."""
    done = []
    left = rows
    for at in range(many):
        worths = [row[at] for row in left]
        if any(worths):
            left = _swept(left, worths)
            first = left[0] if left[0][at] > 0 else [-entry for entry in left[0]]
            done = [_less(row, row[at] // first[at], first) for row in done] + [first]
            left = left[1:]
    return tuple([tuple(row) for row in done])


def _swept(rows, worths):
    """The rows with multiples of each other taken off, so that the worth of the first one alone is not 0.

    The worth of a sum of multiples of rows is this sum of multiples of their worths; some are not 0.
    """
    swept = list(rows)
    left = list(worths)
    filled = [at for at, worth in enumerate(left) if worth != 0]
    while len(filled) > 1:
        least = _least_of(left, filled)
        for at in filled:
            if at != least:
                times = left[at] // left[least]
                swept[at] = _less(swept[at], times, swept[least])
                left[at] = left[at] - times * left[least]
        filled = [at for at in filled if left[at] != 0]
    first = filled[0]
    return [swept[first]] + swept[:first] + swept[first + 1:]


def _least_of(worths, filled):
    """The index of the least worth, without its sign, among those with these indices."""
    least = min([abs(worths[at]) for at in filled])
    return [at for at in filled if abs(worths[at]) == least][0]


def _less(row, times, other):
    """The row less so many times the other one."""
    return [entry - times * taken for entry, taken in zip(row, other)]


def is_singular(table):
    """Whether the determinant of a table with as many rows as columns is 0."""
    columns = {at: column for at, column in enumerate(table)}
    kept, rows = eliminated(columns, len(table))
    return len(rows) > 0
