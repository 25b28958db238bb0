"""Tables with three rows that are 1 modulo N, for the tests of part 5; nothing here is taken from the program."""

from tests.papersamples import Mixer, plain_conjugate, plain_inverse
from tests.samples import BIG, all_places, plain_identity, plain_step, plain_times

ONE = plain_identity(3)
TWENTY = (10 ** 19 + 3, -(10 ** 19) * 7 - 1, 12345678901234567890)


def conjugates(N, seed, many, length, ks=(1, -1, 2, -3)):
    """A product of conjugates of N-th powers of steps."""
    mixer = Mixer(1000 * N + seed)
    table = ONE
    for _ in range(many):
        inner = plain_step(3, *mixer.pick(all_places(3)), N * mixer.pick(ks))
        table = plain_times(table, plain_conjugate(mixer.turner(3, mixer.below(length + 1)), inner))
    return table


def plain_bordered(table, places=(0, 1)):
    """The table with three rows that has one with two rows at the given places."""
    rows = [list(row) for row in ONE]
    for i, row in zip(places, table):
        for j, item in zip(places, row):
            rows[i][j] = item
    return tuple(tuple(row) for row in rows)


def with_column(N, a, c):
    """A table of two rows that is 1 modulo N, with the first column (a, c); a is 1 modulo N, and N divides c."""
    if c == 0:
        return ((1, 0), (0, 1))
    d = pow(a, -1, abs(c * N)) if abs(c * N) > 1 else 1
    return ((a, (a * d - 1) // c), (c, d))


def divisors(number):
    return [d for d in range(1, abs(number) + 1) if number % d == 0]


def short_products(a, e, mixer, many):
    """Plus or minus products of so many divisors of e or inverses of such, modulo a."""
    f = mixer.pick([1, -1])
    for _ in range(many):
        d = mixer.pick(divisors(e))
        f = f * (d if mixer.below(2) else pow(d, -1, abs(a))) % abs(a)
    return f


def told_columns(N, seed, many):
    """Columns (a, c) of the kind for which a paper is promised."""
    mixer = Mixer(7000 * N + seed)
    found = []
    while len(found) < many:
        e = mixer.below(2 * 10000 // N + 1) - 10000 // N
        a = 1 + N * e
        if e != 0 and abs(a) <= 10000:
            f = short_products(a, e, mixer, mixer.below(4))
            f += a * mixer.pick([0, 1, -1, 17, -BIG, BIG, 10 ** 60 + 1])
            found.append((a, N * f))
    return found


def shifted(N, table, mixer):
    """A table of two rows with N * k times its first column added to the second one."""
    return plain_times(table, plain_step(2, 0, 1, N * mixer.pick([0, 1, -5, BIG])))


def told_tables(N, seed, many):
    mixer = Mixer(seed)
    return [shifted(N, with_column(N, a, c), mixer) for a, c in told_columns(N, seed, many)]


def placed_everywhere(table):
    return [plain_bordered(table, places) for places in ((0, 1), (0, 2), (1, 2), (1, 0), (2, 0), (2, 1))]


def word_and_lift(N, seed, lifted):
    """A mixed word times the inverse of a table with the same remainders."""
    table = Mixer(seed).turner(3, 12)
    return plain_times(table, plain_inverse(lifted(N, table)))
