"""Great tables with three rows that are 1 modulo N made smaller by steps, which are noted as factors."""

from rowsteps.moving import flipped, plus_column, plus_row
from rowsteps.tables import OTHERS, identity, inverse, row_times

MOST_PASSES = 40


def nearest(number, divisor):
    """Return an integer that is as near as possible to a number divided by a divisor above 0."""
    return (2 * number + divisor) // (2 * divisor)


def length_of(rows):
    """Return about how many figures the items of rows have together, in the binary system."""
    return sum([abs(item).bit_length() for row in rows for item in row])


def sums_of(rows):
    """Return for each two rows the sum of the products of their items; for a row with itself this is its square."""
    return [[sum([item * other for item, other in zip(row, line)]) for line in rows] for row in rows]


def square_with(sums, i, x, y):
    """Return the square of the row i with x times and y times the two others added to it."""
    j, k = OTHERS[i]
    both = x * sums[i][j] + y * sums[i][k] + x * y * sums[j][k]
    return sums[i][i] + x * x * sums[j][j] + y * y * sums[k][k] + 2 * both


def times_to_add(sums, i, is_double):
    """Return pairs of how many times the two other rows may be added to the row i to make it short."""
    j, k = OTHERS[i]
    found = [(-nearest(sums[i][j], sums[j][j]), 0), (0, -nearest(sums[i][k], sums[k][k]))]
    if is_double:
        # What of the row lies in the plane of the two others is told by both of them together.
        whole = sums[j][j] * sums[k][k] - sums[j][k] * sums[j][k]
        x = sums[i][k] * sums[j][k] - sums[i][j] * sums[k][k]
        y = sums[i][j] * sums[j][k] - sums[i][k] * sums[j][j]
        found.append((nearest(x, whole), nearest(y, whole)))
    return found


def best_steps(rows, is_double):
    """Return i, x and y that make the row i the shortest in proportion, or None if no row becomes shorter."""
    sums = sums_of(rows)
    best = None
    gain = 0
    for i in range(3):
        for x, y in times_to_add(sums, i, is_double):
            left = square_with(sums, i, x, y)
            # The proportion itself is no integer; it is only needed to compare.
            if left < sums[i][i] and 1000 * sums[i][i] // left > gain:
                gain = 1000 * sums[i][i] // left
                best = (i, x, y)
    return best


def peeled(N, table, is_double):
    """Return a list of factors and a table: the worth of the former times the latter is a given table.

    Rows are made as short as they can be by steps. What a step adds in multiples of N is the worth of a factor; so
    only the rest of its k, which is small, stays in the table.
    """
    factors = []
    rows = table
    base = identity(3)
    steps = best_steps(rows, is_double)
    while steps is not None:
        i, x, y = steps
        for j, k in zip(OTHERS[i], (x, y)):
            times = nearest(k, N)
            if times != 0:
                factors.append((base, i, j, -times))
            rows = plus_row(rows, i, j, k)
            base = plus_column(base, i, j, N * times - k)
        steps = best_steps(rows, is_double)
    return factors, tuple([row_times(row, rows) for row in base])


def peeled_behind(N, table, is_double):
    """Return a list of factors and a table: the latter times the worth of the former is a given table."""
    factors, left = peeled(N, flipped(table), is_double)
    turned = [(flipped(inverse(base)), j, i, k) for base, i, j, k in factors]
    return turned[::-1], flipped(left)


def peel(N, table):
    """Return two lists of factors and a table: a given table is the product of the worths with it in the middle."""
    before, behind = [], []
    # Two rows at once find what was put together of few factors, and one at a time goes on where this ends.
    for is_double in (True, False):
        for _ in range(MOST_PASSES):
            factors, left = peeled(N, table, is_double)
            others, right = peeled_behind(N, table, is_double)
            if min(length_of(left), length_of(right)) >= length_of(table):
                break
            if length_of(left) <= length_of(right):
                before = before + factors
                table = left
            else:
                behind = others + behind
                table = right
    return before, table, behind
