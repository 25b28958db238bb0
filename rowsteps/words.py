"""Tables written as products of steps, and such products multiplied out."""

from rowsteps.tables import check_places, check_table, identity


class Clearing:
    """A table on its way to the identity: the steps of `word` times `rows` are always that table."""

    def __init__(self, table):
        self.rows = list(table)
        self.word = []

    def take(self, i, j, k):
        """Take k times the row j from the row i, and note the step that puts it back."""
        if k == 0:
            return
        self.rows[i] = tuple([item - k * other for item, other in zip(self.rows[i], self.rows[j])])
        self.word.append((i, j, k))

    def clear_item(self, i, j):
        """Make the item (i, j), which stands below (j, j), 0 by dividing it and (j, j) in turn."""
        while self.rows[i][j] != 0:
            self.take(j, i, self.rows[j][j] // self.rows[i][j])
            if self.rows[j][j] == 0:
                # The item (i, j) is the divisor sought, but it has to stand at (j, j).
                self.take(j, i, -1)
            self.take(i, j, self.rows[i][j] // self.rows[j][j])

    def clear_below(self, j):
        """Make the item (j, j) 1 and those below it 0; this is not for the last column."""
        for i in range(j + 1, len(self.rows)):
            self.clear_item(i, j)
        # The determinant is 1, so the item (j, j), which divides it, is 1 or -1 by now.
        if self.rows[j][j] == -1:
            self.take(j + 1, j, 1)
            self.take(j, j + 1, -2)
            self.take(j + 1, j, 1)

    def clear_above(self, j):
        """Make the items above the item (j, j), which is 1, 0."""
        for i in range(j):
            self.take(i, j, self.rows[i][j])


def word_of(table):
    """Return a list of triples (i, j, k), k not 0, whose steps have the table as their product."""
    check_table(table)
    n = len(table)
    clearing = Clearing(table)
    # The last item (n - 1, n - 1) needs no care: it is what is left of the determinant 1.
    for j in range(n - 1):
        clearing.clear_below(j)
    for j in range(1, n):
        clearing.clear_above(j)
    return clearing.word


def table_of(n, word):
    """Return the product of the steps of a list of triples (i, j, k), in their order."""
    rows = [list(row) for row in identity(n)]
    for i, j, k in word:
        check_places(n, i, j)
        # A step as the second factor changes one column, so no whole product is needed.
        for m in range(n):
            rows[m][j] += k * rows[m][i]
    return tuple([tuple(row) for row in rows])
