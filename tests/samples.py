"""Tables, wrong values and plain sums for the tests; nothing here is taken from the program."""

from itertools import permutations, product

BIG = 123456789012345678901234567890
FIRST = 10 ** 40 + 7


def plain_identity(n):
    return tuple(tuple(int(i == j) for j in range(n)) for i in range(n))


def plain_step(n, i, j, k):
    return tuple(
        tuple(1 if r == c else k if (r, c) == (i, j) else 0 for c in range(n))
        for r in range(n)
    )


def plain_times(first, second):
    n = len(first)
    return tuple(
        tuple(sum(first[i][m] * second[m][j] for m in range(n)) for j in range(n))
        for i in range(n)
    )


def plain_product(n, word):
    """Multiply the steps of a word out, each as a whole table."""
    result = plain_identity(n)
    for i, j, k in word:
        result = plain_times(result, plain_step(n, i, j, k))
    return result


def plain_determinant(rows):
    """The sum over all orders of the columns, each with its sign."""
    n = len(rows)
    total = 0
    for order in permutations(range(n)):
        part = 1
        for i in range(n):
            part *= rows[i][order[i]]
        swaps = sum(order[a] > order[b] for a in range(n) for b in range(a + 1, n))
        total += -part if swaps % 2 else part
    return total


def squares(n, items):
    """All tuples of n rows of n of the items."""
    rows = list(product(items, repeat=n))
    return list(product(rows, repeat=n))


def all_places(n):
    return [(i, j) for i in range(n) for j in range(n) if i != j]


def small_tables(n):
    """All tables of two rows with items from -3 to 3, or of three rows with items from -1 to 1."""
    items = range(-3, 4) if n == 2 else range(-1, 2)
    return [rows for rows in squares(n, items) if plain_determinant(rows) == 1]


SMALL = {2: small_tables(2), 3: small_tables(3)}


def mixed_word(n, length, seed, bound):
    """A word that looks mixed: a fixed chain of remainders chooses its triples."""
    places = all_places(n)
    word = []
    for _ in range(length):
        seed = (seed * 6364136223846793005 + 1442695040888963407) % 2 ** 64
        i, j = places[(seed >> 20) % len(places)]
        k = (seed >> 24) % (2 * bound + 1) - bound
        word.append((i, j, k))
    return word


def mixed_tables(n):
    """Tables made of mixed words, with items from a few to some hundred figures."""
    found = []
    for seed in range(20):
        found.append(plain_product(n, mixed_word(n, 4 + seed, seed, 5)))
        found.append(plain_product(n, mixed_word(n, 3 + seed, seed + 100, 10 ** 9)))
    found.append(plain_product(n, mixed_word(n, 12, 7, 10 ** 30)))
    found.append(plain_product(n, mixed_word(n, 60, 8, 10 ** 12)))
    return found


MIXED = {2: mixed_tables(2), 3: mixed_tables(3)}

LARGE_TWO = (
    ((1, BIG), (0, 1)),
    ((1, 0), (-BIG, 1)),
    ((BIG, BIG - 1), (BIG + 1, BIG)),
    ((-BIG, BIG - 1), (BIG + 1, -BIG)),
    ((BIG, -1), (1, 0)),
    ((1 - 2 * BIG, 8 * BIG), (-BIG * BIG, 1 + 2 * BIG + 4 * BIG * BIG)),
)
LARGE_THREE = (
    ((1, 0, BIG), (0, 1, -BIG), (0, 0, 1)),
    ((1, 0, 0), (-BIG, 1, 0), (BIG * BIG, FIRST, 1)),
    ((BIG, BIG - 1, 0), (BIG + 1, BIG, 0), (-FIRST, FIRST, 1)),
    ((0, 0, 1), (BIG, -1, 0), (1, 0, BIG)),
)
LARGE = {2: LARGE_TWO, 3: LARGE_THREE}

TABLES = {n: SMALL[n] + MIXED[n] + list(LARGE[n]) for n in (2, 3)}
FEW = {n: SMALL[n][::41] + MIXED[n] + list(LARGE[n]) for n in (2, 3)}


class Awkward:
    """A value that answers no question about itself."""

    def refuse(self, *rest):
        raise AssertionError("a value of any kind was asked what only some can answer")

    __eq__ = __len__ = __iter__ = __getitem__ = __bool__ = __mul__ = __sub__ = refuse
    __hash__ = None


def deep(level):
    value = ()
    for _ in range(level):
        value = (value,)
    return value


def with_item(table, i, j, item):
    rows = [list(row) for row in table]
    rows[i][j] = item
    return tuple(tuple(row) for row in rows)


# Many of them hold the numbers of a table, so that nothing but their kind speaks against them.
WRONG_KINDS = [
    None, True, False, 0, 1, 2, 3, -1, BIG, 1.5, 1j, "", "10", "ab", b"", b"\x01\x00", "((1, 0), (0, 1))",
    [], {}, set(), frozenset(), range(2), object(), int, Awkward(), deep(5), deep(50000),
    (None, None), (1, 1), (1, 0, 1), ("10", "01"), ("100", "010", "001"),
    (b"\x01\x00", b"\x00\x01"), (b"\x01\x00\x00", b"\x00\x01\x00", b"\x00\x00\x01"),
    (range(1, 3), range(2, 5, 2)), (range(1, -1, -1), range(2)), ({1: 1, 0: 0}, {0: 0, 1: 1}),
    ({0: 1, 1: 0}, {0: 0, 1: 1}), {0: (1, 0), 1: (0, 1)}, {(1, 0): 1, (0, 1): 1}, {(1, 0), (0, 1)},
    (Awkward(), Awkward()), ((1, 0), Awkward()), ((1, Awkward()), (0, 1)),
]
WRONG_LISTS = [
    [[1, 0], [0, 1]], [(1, 0), (0, 1)], ([1, 0], [0, 1]), ((1, 0), [0, 1]), ([1, 0], (0, 1)),
    [[1, 0, 0], [0, 1, 0], [0, 0, 1]], [(1, 0, 0), (0, 1, 0), (0, 0, 1)],
    ((1, 0, 0), (0, 1, 0), [0, 0, 1]), ((1, 0, 0), [0, 1, 0], (0, 0, 1)), ([1, 0, 0], (0, 1, 0), (0, 0, 1)),
]
WRONG_LENGTHS = [
    (), ((),), ((), ()), ((), (), ()), (1,), ((1,),), ((1,), (1,)),
    ((1, 0), (0,)), ((1,), (0, 1)), ((1, 0), (0, 1, 0)), ((1, 0, 0), (0, 1)), ((1, 0, 0), (0, 1, 0)),
    ((1, 0), (0, 1), (0, 0)), ((1, 0), (0, 1), ()), ((1, 0, 0), (0, 1, 0), (0, 0)), ((1, 0), (0, 1, 0), (0, 0, 1)),
    ((1, 0, 0), (0, 1, 0), (0, 0, 1, 0)), ((1, 0, 0, 0), (0, 1, 0), (0, 0, 1)), ((1, 0, 0), (0, 1, 0, 0), (0, 0, 1)),
    plain_identity(4), plain_identity(5), tuple(plain_identity(4)[:3]), tuple(plain_identity(4)[:2]),
]
WRONG_DETERMINANTS = [
    ((0, 0), (0, 0)), ((1, 1), (1, 1)), ((0, 1), (1, 0)), ((1, 0), (0, -1)), ((-1, 0), (0, 1)), ((2, 0), (0, 1)),
    ((2, 1), (1, 2)), ((1, 2), (3, 4)), ((BIG, BIG), (BIG + 1, BIG)), ((BIG, -1), (-1, 0)),
    ((0, 0, 0), (0, 0, 0), (0, 0, 0)), ((1, 1, 1), (1, 1, 1), (1, 1, 1)), ((0, 1, 0), (1, 0, 0), (0, 0, 1)),
    ((1, 0, 0), (0, 1, 0), (0, 0, -1)), ((-1, 0, 0), (0, -1, 0), (0, 0, -1)), ((1, 0, 0), (0, 2, 0), (0, 0, 1)),
    ((0, 0, 1), (0, 1, 0), (1, 0, 0)), ((1, 2, 3), (4, 5, 6), (7, 8, 9)), ((BIG, 0, 0), (0, 1, 0), (0, 0, BIG)),
]
WRONG_ITEMS = [
    with_item(table, i, j, item)
    for table in (plain_identity(2), plain_identity(3), ((1, 1), (0, 1)), ((0, 1, 0), (0, 0, 1), (1, 0, 0)))
    for i in range(len(table))
    for j in range(len(table))
    for item in (
        bool(table[i][j]), float(table[i][j]), complex(table[i][j]), str(table[i][j]), None,
        (table[i][j],), [table[i][j]], {}, b"\x01",
    )
]
WRONG_TABLES = WRONG_KINDS + WRONG_LISTS + WRONG_LENGTHS + WRONG_DETERMINANTS + WRONG_ITEMS

WRONG_SIZES = [True, False, 0, 1, 4, 5, -1, -2, -3, 22, BIG, -BIG]


def wrong_pairs(n):
    """Pairs (i, j) that are no two different places of n rows."""
    right = range(n)
    outside = [-1, -2, -n, n, n + 1, BIG, -BIG, True, False]
    pairs = [(i, i) for i in right]
    for bad in outside:
        pairs.extend((bad, good) for good in right)
        pairs.extend((good, bad) for good in right)
        pairs.extend((bad, other) for other in outside)
    return pairs
