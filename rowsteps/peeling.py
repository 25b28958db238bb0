"""Great tables with three rows that are 1 modulo N made smaller by steps, which are noted as factors."""

from rowsteps.moving import flipped, plus_column, plus_row
from rowsteps.tables import identity, inverse, row_times

MOST_PASSES = 40


def nearest(number, divisor):
    """Return an integer that is as near as possible to a number divided by a divisor above 0."""
    return (2 * number + divisor) // (2 * divisor)


def length_of(rows):
    """Return about how many figures the items of rows have together, in the binary system."""
    return sum([abs(item).bit_length() for row in rows for item in row])


def best_step(rows):
    """Return the step (i, j, k) that makes a row the shortest in proportion, or None if none makes one shorter."""
    squares = [sum([item * item for item in row]) for row in rows]
    best = None
    gain = 0
    for i in range(3):
        for j in range(3):
            if i != j:
                both = sum([item * other for item, other in zip(rows[i], rows[j])])
                k = -nearest(both, squares[j])
                left = squares[i] + 2 * k * both + k * k * squares[j]
                # The proportion itself is no integer; it is only needed to compare.
                if left < squares[i] and 1000 * squares[i] // left > gain:
                    gain = 1000 * squares[i] // left
                    best = (i, j, k)
    return best


def peeled(N, table):
    """Return a list of factors and a table: the worth of the former times the latter is a given table.

    Rows are made as short as they can be by steps. What a step adds in multiples of N is the worth of a factor; so
    only the rest of its k, which is small, stays in the table.
    """
    factors = []
    rows = table
    base = identity(3)
    step = best_step(rows)
    while step is not None:
        i, j, k = step
        times = nearest(k, N)
        if times != 0:
            factors.append((base, i, j, -times))
        rows = plus_row(rows, i, j, k)
        base = plus_column(base, i, j, N * times - k)
        step = best_step(rows)
    return factors, tuple([row_times(row, rows) for row in base])


def peeled_behind(N, table):
    """Return a list of factors and a table: the latter times the worth of the former is a given table."""
    factors, left = peeled(N, flipped(table))
    turned = [(flipped(inverse(base)), j, i, k) for base, i, j, k in factors]
    return turned[::-1], flipped(left)


def peel(N, table):
    """Return two lists of factors and a table: a given table is the product of the worths with it in the middle."""
    before, behind = [], []
    for _ in range(MOST_PASSES):
        factors, left = peeled(N, table)
        others, right = peeled_behind(N, table)
        if min(length_of(left), length_of(right)) >= length_of(table):
            break
        if length_of(left) <= length_of(right):
            before = before + factors
            table = left
        else:
            behind = others + behind
            table = right
    return before, table, behind
