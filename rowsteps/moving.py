"""A table with three rows that moves lead to the identity, and the paper that these moves tell."""

from rowsteps.papers import turned_factors
from rowsteps.tables import identity, row_times


def plus_row(rows, i, j, k):
    """Return rows in which k times the row j is added to the row i."""
    added = tuple([item + k * other for item, other in zip(rows[i], rows[j])])
    return tuple([added if at == i else row for at, row in enumerate(rows)])


def plus_column(rows, i, j, k):
    """Return rows in which k times the column i is added to the column j."""
    return tuple([tuple([item + k * row[i] if at == j else item for at, item in enumerate(row)]) for row in rows])


def flipped(rows):
    """Return the rows that have the columns of the given ones as their rows."""
    return tuple([tuple([row[j] for row in rows]) for j in range(len(rows))])


class Moving:
    """A table on its way to the identity.

    The table at the beginning is always the worth of the factors times base * rows * base ** -1.
    """

    def __init__(self, N, table):
        self.modulus = N
        self.rows = table
        self.base = identity(len(table))
        self.factors = []

    def turn(self, i, j, t):
        """Take the step (i, j) t times as the first factor, and its inverse as the last one."""
        if t != 0:
            self.rows = plus_column(plus_row(self.rows, i, j, t), i, j, -t)
            self.base = plus_column(self.base, i, j, -t)

    def add_row(self, i, j, k):
        """Add k * N times the row j to the row i."""
        if k != 0:
            self.rows = plus_row(self.rows, i, j, k * self.modulus)
            self.factors.append((self.base, i, j, -k))

    def add_column(self, i, j, k):
        """Add k * N times the column i to the column j."""
        if k != 0:
            self.rows = plus_column(self.rows, i, j, k * self.modulus)
            # Put in front, with the rows in its table, the factor keeps the products of the first factors small.
            turner = tuple([row_times(row, self.rows) for row in self.base])
            self.factors.append((turner, i, j, -k))

    def add_line(self, is_flipped, i, j, k):
        """Add k * N times the row j to the row i, or, if this is flipped, the column j to the column i."""
        if is_flipped:
            self.add_column(j, i, k)
        else:
            self.add_row(i, j, k)

    def clear_lines(self, p):
        """Make the column p and the row p those of the identity, where the item (p, p) is 1 already."""
        for i in range(len(self.rows)):
            if i != p:
                self.add_row(i, p, -(self.rows[i][p] // self.modulus))
                self.add_column(p, i, -(self.rows[p][i] // self.modulus))

    def paper(self, rest):
        """Return the paper of the table at the beginning, if `rest` is one of the rows as they are now."""
        return tuple(self.factors) + turned_factors(self.base, rest)
