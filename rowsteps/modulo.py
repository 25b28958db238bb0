"""Remainders of tables, and the few steps that make a square modulo N."""

from itertools import product
from math import gcd

from rowsteps.errors import BadTable
from rowsteps.tables import check_number, check_size, check_table, check_table_of, determinant, has_shape
from rowsteps.words import table_of

# The greatest N for remainders, and the greatest one for which all of them are listed.
MOST = 60
MOST_LISTED = 12


def reduced(N, rows):
    """Return the tuple of tuples of the remainders of rows modulo N."""
    return tuple([tuple([item % N for item in row]) for row in rows])


def rest(N, table):
    """Return the remainders, from 0 to N - 1, of the items of a table."""
    check_number(N, 1, MOST)
    check_table(table)
    return reduced(N, table)


def is_alike(N, first, second):
    """Return whether two tables with the same number of rows have the same remainders."""
    check_number(N, 1, MOST)
    check_table(first)
    check_table_of(len(first), second)
    return reduced(N, first) == reduced(N, second)


def is_square(N, value):
    """Return whether a value of any kind is a square for N."""
    return has_shape(value) and (determinant(value) - 1) % N == 0


def check_square(N, value):
    """Raise BadNumber for a wrong N, and then BadTable if a value of any kind is no square for N."""
    check_number(N, 1, MOST)
    if not is_square(N, value):
        raise BadTable("not a tuple of two or three rows with a determinant that is 1 modulo N")


def freeing_times(first, last, N):
    """Return how many times `first` has to be added to `last` for no common divisor with N.

    The three have none themselves, so there is such a number below N.
    """
    k = 0
    while gcd(last + k * first, N) != 1:
        k += 1
    return k


def inverse_modulo(N, item):
    """Return the least number whose product with an item leaves the rest of 1.

    The item has no common divisor with N, so there is such a number below N.
    """
    k = 0
    while (k * item - 1) % N != 0:
        k += 1
    return k


class RestClearing:
    """A square on its way to the identity modulo N: the steps of `word` times `rows` stay alike to it."""

    def __init__(self, N, square):
        self.modulus = N
        self.rows = list(reduced(N, square))
        self.word = []

    def take(self, i, j, k):
        """Take k times the row j from the row i, and note the step that puts it back."""
        k = k % self.modulus
        if k == 0:
            return
        row = [item - k * other for item, other in zip(self.rows[i], self.rows[j])]
        self.rows[i] = tuple([item % self.modulus for item in row])
        self.word.append((i, j, k))

    def free_last(self, j):
        """Add the rows from j on to the last one so that its item in the column j has an inverse."""
        last = len(self.rows) - 1
        for i in range(j, last):
            # The rows between take care of the divisors that they do not have, so each adds to the last one once.
            left = self.modulus
            for row in self.rows[i + 1:last]:
                left = gcd(left, row[j])
            self.take(last, i, -freeing_times(self.rows[i][j], self.rows[last][j], left))

    def clear_below(self, j):
        """Make the item (j, j) 1 and those below it 0; this is not for the last column."""
        self.free_last(j)
        last = len(self.rows) - 1
        self.take(j, last, (self.rows[j][j] - 1) * inverse_modulo(self.modulus, self.rows[last][j]))
        for i in range(j + 1, last + 1):
            self.take(i, j, self.rows[i][j])

    def clear_above(self, j):
        """Make the items above the item (j, j), which is 1, 0."""
        for i in range(j):
            self.take(i, j, self.rows[i][j])


def word_modulo(N, square):
    """Return a list of at most 4 (two rows) or 11 triples whose steps make the square modulo N."""
    check_square(N, square)
    n = len(square)
    clearing = RestClearing(N, square)
    # The last item (n - 1, n - 1) needs no care: it is what is left of the determinant 1.
    for j in range(n - 1):
        clearing.clear_below(j)
    for j in range(1, n):
        clearing.clear_above(j)
    return clearing.word


def lifted(N, square):
    """Return a table with the same remainders as the square."""
    word = word_modulo(N, square)
    return table_of(len(square), word)


def primes_of(N):
    """Return the ascending list of the primes that divide N."""
    primes = []
    for p in range(2, N + 1):
        if N % p == 0 and all([p % other != 0 for other in primes]):
            primes.append(p)
    return primes


def count(n, N):
    """Return how many different remainders modulo N the tables with n rows have."""
    check_size(n)
    check_number(N, 1, MOST)
    found = N ** 3 if n == 2 else N ** 8
    for p in primes_of(N):
        found = found // p ** 2 * (p ** 2 - 1)
        if n == 3:
            found = found // p ** 3 * (p ** 3 - 1)
    return found


def all_rows(n, N):
    """Return the ascending list of all rows of n integers from 0 to N - 1."""
    if n == 2:
        return list(product(range(N), range(N)))
    return list(product(range(N), range(N), range(N)))


def all_squares(n, N):
    """Return the ascending list of the squares for N of n rows with items from 0 to N - 1."""
    rows = all_rows(n, N)
    if n == 2:
        return [square for square in product(rows, rows) if (determinant(square) - 1) % N == 0]
    return [square for square in product(rows, rows, rows) if (determinant(square) - 1) % N == 0]


def all_modulo(N):
    """Return the ascending list of the remainders modulo N that the tables with two rows have."""
    check_number(N, 1, MOST_LISTED)
    return all_squares(2, N)
