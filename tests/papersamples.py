"""Plain papers, their worths and wrong papers for the tests; nothing here is taken from the program."""

from itertools import product

from tests.samples import (
    BIG, WRONG_ITEMS, WRONG_KINDS, WRONG_LISTS, all_places, plain_determinant, plain_identity, plain_product,
    plain_step, plain_times,
)
from tests.devicesamples import plain_rest

WRONG_POWERS = [1, 0, -1, -2, -30, 31, 32, 60, BIG, -BIG, True, False, None, 2.0, "2"]


class Mixer:
    """Numbers that look mixed: a fixed chain of remainders tells them."""

    def __init__(self, seed):
        self.seed = seed * 2 + 1
        for _ in range(5):
            self.below(2)

    def below(self, many):
        self.seed = (self.seed * 6364136223846793005 + 1442695040888963407) % 2 ** 64
        return (self.seed >> 24) % many

    def pick(self, items):
        return items[self.below(len(items))]

    def turner(self, n, length, most=4):
        """A table that is a product of so many steps."""
        word = [(*self.pick(all_places(n)), self.pick([k for k in range(-most, most + 1) if k])) for _ in range(length)]
        return plain_product(n, word)

    def factor(self, n, length, ks):
        return (self.turner(n, length), *self.pick(all_places(n)), self.pick(ks))

    def paper(self, n, many, length, ks=(1, -1, 2, -3)):
        return tuple(self.factor(n, self.below(length + 1), ks) for _ in range(many))


def plain_inverse(table):
    """The cofactors of the places, with rows and columns exchanged."""
    n = len(table)

    def minor(i, j):
        left = tuple(tuple(item for b, item in enumerate(row) if b != j) for a, row in enumerate(table) if a != i)
        return plain_determinant(left)

    return tuple(tuple((-1) ** (i + j) * minor(j, i) for j in range(n)) for i in range(n))


def plain_conjugate(table, inner):
    return plain_times(plain_times(table, inner), plain_inverse(table))


def plain_worth(N, n, paper):
    """Multiply the worths of the factors out, each as three whole tables."""
    found = plain_identity(n)
    for table, i, j, k in paper:
        found = plain_times(found, plain_conjugate(table, plain_step(n, i, j, k * N)))
    return found


def opposite(table):
    return tuple(tuple(-item for item in row) for row in table)


def is_one_modulo(N, table):
    return plain_rest(N, table) == plain_identity(len(table))


def assert_paper(test, N, table, paper):
    """Assert that a value is a paper for as many rows as a table has, with the table as its worth."""
    test.assertTrue(is_plain_paper(len(table), paper))
    test.assertEqual(plain_worth(N, len(table), paper), table)


def like_papers(n):
    """Papers in which like factors stand beside one another."""
    one, turner = plain_identity(n), Mixer(7).turner(n, 4)
    a, b, c = (one, 0, 1), (turner, 0, 1), (turner, 1, 0)

    def put(*parts):
        return tuple((*part, k) for part, k in parts)

    return [
        put((a, 1), (a, 1)), put((a, 1), (a, -1)), put((a, 2), (a, -5), (a, 3)), put((a, 1), (b, 2), (b, -2), (a, 4)),
        put((a, 1), (b, 2), (b, -2), (a, -1)), put((a, 1), (b, 2), (c, 1), (c, -1), (b, -2), (a, -1), (c, 7)),
        put((a, 1), (b, 1), (a, 1)), put((b, 1), (c, 1), (b, 1), (b, BIG), (b, -BIG)), put((b, 1), (b, 1), (b, -1)),
        put((a, BIG), (a, 1 - BIG), (b, 1), (b, 1), (c, 1), (c, 1), (c, 1)), put((c, 3), (b, 3), (b, -3), (c, -2)),
    ]


def sample_papers(n):
    found = [()]
    for seed in range(12):
        mixer = Mixer(100 * n + seed)
        found.append(mixer.paper(n, 1 + seed % 6, 5, (1, -1, 2, -3, 17, BIG, -BIG)))
    return found + like_papers(n)


PAPERS = {n: sample_papers(n) for n in (2, 3)}


def spoiled(factor):
    """What comes of a factor if one of its four parts is changed to something wrong."""
    table, i, j, k = factor
    n = len(table)
    for wrong in WRONG_KINDS + WRONG_LISTS + WRONG_ITEMS + [plain_identity(5 - n), plain_identity(4), opposite_row(table)]:
        yield (wrong, i, j, k)
    for wrong in (-1, n, n + 1, BIG, True, False, None, 0.0, 1.0, "0", (0,), [1]):
        yield (table, wrong, j, k)
        yield (table, i, wrong, k)
    yield (table, j, j, k)
    yield (table, i, i, k)
    for wrong in (0, True, False, None, 1.0, "1", (1,), [1], b"1"):
        yield (table, i, j, wrong)


def opposite_row(table):
    """The table with its first row's opposite: the determinant is -1."""
    return (tuple(-item for item in table[0]),) + table[1:]


def wrong_papers(n):
    """Values of many kinds that are no papers for n rows."""
    right = [factor for factor in PAPERS[n][3]]
    found = WRONG_KINDS + WRONG_LISTS
    found += [right, list(right), right[0], right[0][:3], {right[0]: True}, {0: right[0]}, iter(right)]
    found += [tuple(map(list, right)), (right,), (tuple(right),), (right[0][:3],), (right[0] + (1,),), (right[0][0],), ((),)]
    found += [(right[0], None), (right[0], ()), (None, right[0]), (right[0], *PAPERS[5 - n][2]), PAPERS[5 - n][2]]
    found += [(*PAPERS[5 - n][2], right[0]), (right[0], {}), (right[0], [right[0]]), (right[0], "abcd"), ("abcd",)]
    for wrong in spoiled(right[0]):
        found.append((wrong,))
    for at, wrong in product((0, 1), list(spoiled(right[0]))[-30:]):
        found.append(tuple(wrong if place == at else factor for place, factor in enumerate((right[0], right[0]))))
    return found


WRONG_PAPERS = {n: wrong_papers(n) for n in (2, 3)}
def is_plain_table(n, value):
    if type(value) is not tuple or [type(row) for row in value] != [tuple] * n:
        return False
    if [[type(item) for item in row] for row in value] != [[int] * n] * n:
        return False
    return plain_determinant(value) == 1


def is_plain_paper(n, value):
    """Whether a value is a paper for n rows, asked step by step."""
    if type(value) is not tuple:
        return False
    for factor in value:
        if type(factor) is not tuple or len(factor) != 4 or [type(item) for item in factor[1:]] != [int] * 3:
            return False
        if not is_plain_table(n, factor[0]) or factor[1:3] not in all_places(n) or factor[3] == 0:
            return False
    return True


# What is wrong for one number of rows may be a paper for the other one.
NO_PAPERS = [value for n in (2, 3) for value in WRONG_PAPERS[n] if not is_plain_paper(5 - n, value)]
