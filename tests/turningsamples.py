"""Plain polynomials, turnings and tables for the tests of part 3; nothing here is taken from the program."""

from math import comb

from tests.samples import BIG, plain_identity, plain_product, plain_step, plain_times

S = ((0, -1), (1, 0))
S_BACK = ((0, 1), (-1, 0))
T = ((1, 1), (0, 1))
T_BACK = ((1, -1), (0, 1))
OPPOSITE = ((-1, 0), (0, -1))
WRONG_ORDERS = [1, 0, -1, -2, -30, 31, 32, 60, BIG, -BIG, True, False]


def plain_v(k):
    """V(k) by the formula with binomial numbers, the coefficient of 1 first."""
    found = [0] * k
    for j in range((k + 1) // 2):
        found[k - 1 - 2 * j] = (-1) ** j * comb(k - 1 - j, j)
    return tuple(found)


def plain_powers(N):
    """x to the powers 0 to 2 * N modulo V(N), each made of the one before."""
    low = plain_v(N)[:-1]
    power = (1,) + (0,) * (N - 2)
    found = [power]
    for _ in range(2 * N):
        power = tuple(item - power[-1] * other for item, other in zip((0,) + power[:-1], low))
        found.append(power)
    return found


POWERS = {N: plain_powers(N) for N in range(2, 31)}


def plain_poly_product(N, p, q):
    sums = {}
    for i, item in enumerate(p):
        for j, other in enumerate(q):
            if item and other:
                sums[i + j] = sums.get(i + j, 0) + item * other
    return tuple(sum(item * POWERS[N][up][at] for up, item in sums.items()) for at in range(N - 1))


def plain_turning_product(N, first, second):
    return tuple(
        tuple(
            tuple(map(sum, zip(*(plain_poly_product(N, first[i][m], second[m][j]) for m in range(3)))))
            for j in range(3)
        )
        for i in range(3)
    )


def constant(N, number):
    return (number,) + (0,) * (N - 2)


def plain_unit(N):
    return tuple(tuple(constant(N, int(i == j)) for j in range(3)) for i in range(3))


def plain_mirror(N, place):
    """The mirrors as the table of the document has them."""
    rows = {
        0: ((-1, 1, 0), (0, 1, 0), (0, 0, 1)),
        1: ((1, 0, 0), (1, -1, "x"), (0, 0, 1)),
        2: ((1, 0, 0), (0, 1, 0), (0, "x", -1)),
    }
    return tuple(
        tuple(POWERS[N][1] if item == "x" else constant(N, item) for item in row)
        for row in rows[place]
    )


def plain_turnings(N):
    """The turnings of S, of T and of the inverse of T."""
    a, b, c = (plain_mirror(N, place) for place in range(3))
    return {
        "S": plain_turning_product(N, a, c), "T": plain_turning_product(N, c, b),
        "t": plain_turning_product(N, b, c),
    }


TURNINGS = {N: plain_turnings(N) for N in range(2, 31)}
LETTERS = {"S": S, "T": T, "t": T_BACK}


def table_of_letters(letters):
    table = plain_identity(2)
    for letter in letters:
        table = plain_times(table, LETTERS[letter])
    return table


def turning_of_letters(N, letters):
    turning = plain_unit(N)
    for letter in letters:
        turning = plain_turning_product(N, turning, TURNINGS[N][letter])
    return turning


def mixed_letters(length, seed):
    """A word of the letters S, T and t that looks mixed."""
    letters = ""
    for _ in range(length):
        seed = (seed * 6364136223846793005 + 1442695040888963407) % 2 ** 64
        letters += "STTtSTtt"[(seed >> 40) % 8]
    return letters


def plain_inverse(table):
    (a, b), (c, d) = table
    return ((d, -b), (-c, a))


def conjugated(table, k):
    """table * T ** k * table ** -1."""
    return plain_times(plain_times(table, plain_step(2, 0, 1, k)), plain_inverse(table))


def made_table(N, seed, length):
    """A product of conjugates of powers of T whose exponents are multiples of N."""
    table = plain_identity(2)
    for at in range(length):
        turner = table_of_letters(mixed_letters(3 + (seed + at) % 9, 100 * seed + at))
        k = ((seed * 7 + at * 5) % 9 - 4) or (BIG if at % 2 else -BIG)
        table = plain_times(table, conjugated(turner, k * N))
    return table


def long_table(figures):
    """A table whose columns take as many divisions as numbers of their size can take."""
    table = plain_identity(2)
    while table[0][0] < 10 ** (figures - 1):
        table = plain_times(table, ((2, 1), (1, 1)))
    return table


def wide_table(figures):
    """A table of that size with items that make each power of T long for N = 30."""
    table = plain_identity(2)
    while abs(table[0][0]) < 10 ** (figures - 1):
        table = plain_times(table, ((15, -1), (1, 0)))
    return table


def step_products():
    """Tables that are long products of steps of any size."""
    words = [
        [(0, 1, BIG), (1, 0, -BIG), (0, 1, 3)], [(1, 0, 10 ** 30 + 1)], [(0, 1, -(10 ** 25)), (1, 0, 2), (0, 1, BIG)],
        [(1, 0, 1), (0, 1, -1), (1, 0, 1)] * 2, [(0, 1, 1), (1, 0, 1)] * 40, [(0, 1, 7), (1, 0, -9)] * 12,
    ]
    return [plain_product(2, word) for word in words]
