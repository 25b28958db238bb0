"""Papers: products of conjugates of N-th powers of steps, multiplied out, turned and shortened."""

from rowsteps.errors import BadPaper
from rowsteps.tables import check_number, check_size, check_table, cofactor, identity, inverse
from rowsteps.tables import is_number, is_table, row_times

LEAST = 2
MOST = 30


def check_power(N):
    """Raise BadNumber if N is not from 2 to 30."""
    check_number(N, LEAST, MOST)


def is_factor(n, value):
    """Return whether a value of any kind is a factor for tables with n rows."""
    if not isinstance(value, tuple) or len(value) != 4:
        return False
    table, i, j, k = value
    if not is_table(table) or len(table) != n or not all([is_number(item) for item in (i, j, k)]):
        return False
    return 0 <= i < n and 0 <= j < n and i != j and k != 0


def is_paper(n, value):
    """Return whether a value of any kind is a paper for tables with n rows."""
    return isinstance(value, tuple) and all([is_factor(n, factor) for factor in value])


def check_paper(value):
    """Raise BadPaper if a value of any kind is a paper neither for two nor for three rows."""
    if not is_paper(2, value) and not is_paper(3, value):
        raise BadPaper("not a tuple of factors for one number of rows")


def column_and_row(factor):
    """Return the column i of the table of a factor, and the row j of its inverse."""
    table, i, j, _ = factor
    column = [row[i] for row in table]
    if len(table) == 2:
        return column, inverse(table)[j]
    # Of the whole inverse just one row is needed.
    return column, [cofactor(table, m, j) for m in range(3)]


def multiplied(N, n, paper):
    """Return the worth of a paper for tables with n rows."""
    found = identity(n)
    for factor in paper:
        # The worth of a factor is the identity, and in addition k * N times a column of its table times a row of
        # the inverse: so no product of whole tables is needed.
        column, row = column_and_row(factor)
        amounts = [factor[3] * N * sum([item * other for item, other in zip(line, column)]) for line in found]
        found = tuple([
            tuple([item + amount * other for item, other in zip(line, row)]) for line, amount in zip(found, amounts)
        ])
    return found


def worth(N, n, value):
    """Return the worth of a paper for tables with n rows."""
    check_power(N)
    check_size(n)
    if not is_paper(n, value):
        raise BadPaper("not a tuple of factors for this number of rows")
    return multiplied(N, n, value)


def judge(N, table, value):
    """Return whether a value of any kind is a paper with the table as its worth."""
    check_power(N)
    check_table(table)
    n = len(table)
    return is_paper(n, value) and multiplied(N, n, value) == table


def undone_factors(paper):
    """Return the factors of a paper in the opposite order, each done the other way."""
    return tuple([(table, i, j, -k) for table, i, j, k in paper[::-1]])


def turned_factors(C, paper):
    """Return the factors of a paper, each with C in front of its table."""
    found = []
    for table, i, j, k in paper:
        found.append((tuple([row_times(row, table) for row in C]), i, j, k))
    return tuple(found)


def piled_factors(paper):
    """Return the factors of a paper with like ones that meet made one."""
    pile = []
    for table, i, j, k in paper:
        if len(pile) > 0 and pile[-1][:3] == (table, i, j):
            k = k + pile.pop()[3]
        if k != 0:
            pile.append((table, i, j, k))
    return tuple(pile)


def backwards(paper):
    """Return the paper whose worth is the inverse of that of a paper."""
    check_paper(paper)
    return undone_factors(paper)


def conjugated(C, paper):
    """Return the paper whose worth is the product of C, the worth of a paper and the inverse of C."""
    check_table(C)
    if not is_paper(len(C), paper):
        raise BadPaper("not a tuple of factors for as many rows as the table has")
    return turned_factors(C, paper)


def shortened(paper):
    """Return the paper with the same worth in which like factors that meet are one."""
    check_paper(paper)
    return piled_factors(paper)
