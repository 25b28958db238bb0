"""Tables of two or three rows with the determinant 1, and the steps among them."""

from rowsteps.errors import BadNumber, BadPlace, BadTable

# For each place the two other ones, in the order that spares a cofactor of three rows its sign.
OTHERS = ((1, 2), (2, 0), (0, 1))


def is_number(value):
    """Return whether a value of any kind is an integer; True and False are none."""
    return isinstance(value, int) and not isinstance(value, bool)


def is_row(value, n):
    """Return whether a value of any kind is a tuple of n integers."""
    return isinstance(value, tuple) and len(value) == n and all([is_number(item) for item in value])


def has_shape(value):
    """Return whether a value of any kind is a tuple of n tuples of n integers, n being 2 or 3."""
    if not isinstance(value, tuple) or len(value) not in (2, 3):
        return False
    n = len(value)
    return all([is_row(row, n) for row in value])


def is_table(value):
    """Return whether a value of any kind is a table."""
    return has_shape(value) and determinant(value) == 1


def cofactor(rows, i, j):
    """Return the cofactor of the item (i, j) of three rows."""
    up, down = OTHERS[i]
    left, right = OTHERS[j]
    return rows[up][left] * rows[down][right] - rows[up][right] * rows[down][left]


def determinant(rows):
    """Return the determinant of two rows of two integers, or of three rows of three."""
    if len(rows) == 2:
        return rows[0][0] * rows[1][1] - rows[0][1] * rows[1][0]
    return sum([rows[0][j] * cofactor(rows, 0, j) for j in range(3)])


# The words of the errors never show the value: it may be of any kind and of any size.
def check_table(value):
    """Raise BadTable if a value of any kind is not a table."""
    if not is_table(value):
        raise BadTable("not a table of two or three rows with the determinant 1")


def check_table_of(n, value):
    """Raise BadTable if a value of any kind is not a table of n rows."""
    check_table(value)
    if len(value) != n:
        raise BadTable("the table has not as many rows as it needs here")


def check_number(value, low, high):
    """Raise BadNumber if a value is not an integer from low to high."""
    if not is_number(value) or value < low or value > high:
        raise BadNumber("not an integer of the range that is asked for")


def check_size(n):
    """Raise BadNumber if n is not a number of rows that a table can have."""
    check_number(n, 2, 3)


def check_places(n, i, j):
    """Raise BadPlace if i and j are not two different places of n rows."""
    for place in (i, j):
        if not is_number(place) or place < 0 or place >= n:
            raise BadPlace("a place is not an integer from 0 to n - 1")
    if i == j:
        raise BadPlace("the two places are equal")


def identity(n):
    """Return the table of n rows with 1 at the places (i, i) and 0 elsewhere."""
    check_size(n)
    return tuple([tuple([1 if i == j else 0 for j in range(n)]) for i in range(n)])


def row_times(row, rows):
    """Return a row as the first factor times the rows of the second one."""
    n = len(rows)
    return tuple([sum([row[m] * rows[m][j] for m in range(n)]) for j in range(n)])


def times(first, second):
    """Return the product of two tables with the same number of rows."""
    check_table(first)
    check_table(second)
    if len(first) != len(second):
        raise BadTable("the two tables have unlike numbers of rows")
    return tuple([row_times(row, second) for row in first])


def inverse(table):
    """Return the table whose product with the given one is the identity."""
    check_table(table)
    if len(table) == 2:
        (a, b), (c, d) = table
        return ((d, -b), (-c, a))
    return tuple([tuple([cofactor(table, j, i) for j in range(3)]) for i in range(3)])


def bordered(table):
    """Return the table with three rows that has a given one with two rows in its first corner."""
    check_table_of(2, table)
    (a, b), (c, d) = table
    return ((a, b, 0), (c, d, 0), (0, 0, 1))


def step(n, i, j, k):
    """Return the step (i, j) k times: as a first factor it adds k times the row j to the row i."""
    # A wrong n is refused by identity, so this comes ahead of the places.
    rows = [list(row) for row in identity(n)]
    check_places(n, i, j)
    rows[i][j] = k
    return tuple([tuple(row) for row in rows])
