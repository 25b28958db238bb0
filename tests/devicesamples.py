"""Devices for the tests, and plain sums with exchanges; the rules are worked out anew here."""

from functools import lru_cache
from itertools import product
from math import gcd

from rowsteps.device import Device
from rowsteps.made import cosets_device, lines_device, planes_device, rows_device
from rowsteps.parted import beside
from tests.samples import all_places, plain_identity, plain_step, plain_times


def then(first, second):
    """Do one exchange and then another one."""
    return tuple(second[state] for state in first)


def back(exchange):
    return tuple(sorted(range(len(exchange)), key=lambda state: exchange[state]))


def plain_power(exchange, k):
    if k < 0:
        exchange, k = back(exchange), -k
    result = tuple(range(len(exchange)))
    for _ in range(k):
        result = then(result, exchange)
    return result


def plain_order(exchange):
    power, k = exchange, 1
    while power != tuple(range(len(exchange))):
        power, k = then(power, exchange), k + 1
    return k


def plain_joined(*exchanges):
    """The product of exchanges: the last one is done first."""
    result = tuple(range(len(exchanges[0])))
    for exchange in reversed(exchanges):
        result = then(result, exchange)
    return result


def broken_rules(n, moves):
    """The names of the rules of [2.1] that exchanges do not keep."""
    def x(i, j):
        return moves[(i, j)]

    broken = []
    turn = plain_joined(x(0, 1), back(x(1, 0)), x(0, 1))
    if plain_power(turn, 4) != tuple(range(len(turn))):
        broken.append("turn")
    if n == 2 and turn != plain_joined(back(x(1, 0)), x(0, 1), back(x(1, 0))):
        broken.append("both")
    if n == 3:
        for (i, j), (k, m) in product(all_places(3), repeat=2):
            if j == k and i != m:
                if plain_joined(x(i, j), x(k, m), back(x(i, j)), back(x(k, m))) != x(i, m):
                    broken.append(("sum", i, j, k, m))
            if j != k and i != m and plain_joined(x(i, j), x(k, m)) != plain_joined(x(k, m), x(i, j)):
                broken.append(("order", i, j, k, m))
    return broken


def moves_of(device):
    return {(i, j): device.move(i, j) for i, j in all_places(device.n)}


def plain_act(device, word, state):
    """Lead a state by the steps of a word, the last one first, one by one."""
    for i, j, k in reversed(word):
        state = plain_power(device.move(i, j), k)[state]
    return state


def mixed(size, seed):
    """An order of so many states that looks mixed."""
    states = list(range(size))
    for at in range(size - 1, 0, -1):
        seed = (seed * 6364136223846793005 + 1442695040888963407) % 2 ** 64
        other = (seed >> 30) % (at + 1)
        states[at], states[other] = states[other], states[at]
    return tuple(states)


def in_rounds(size, length, many, seed):
    """An exchange with so many rounds of a length, and the rest left as it is."""
    order = mixed(size, seed)
    exchange = list(range(size))
    for at in range(0, many * length, length):
        for place in range(length):
            exchange[order[at + place]] = order[at + (place + 1) % length]
    return tuple(exchange)


def moves_of_turns(s, u):
    """The exchanges of T and of the other step, if S is s and S * T is u: s ** 4 is 1 and u ** 3 is s * s."""
    there = plain_joined(back(s), u)
    return {(0, 1): there, (1, 0): plain_joined(s, back(there), back(s))}


def two_rows(size, seed):
    """A device of two rows whose S is done twice, and S * T three times, to change nothing."""
    s = in_rounds(size, 2, size // 2 - seed % 2 * (size // 8), seed)
    u = in_rounds(size, 3, size // 3 - seed % 3 * (size // 12), seed + 1000)
    return Device(2, moves_of_turns(s, u))


def doubled(exchange, crossings):
    """Lay an exchange over pairs of states; where a state stands in the crossings, the pair is crossed."""
    size = len(exchange)
    found = list(range(2 * size))
    for state, goal in enumerate(exchange):
        crossed = state in crossings
        found[state] = goal + size * crossed
        found[state + size] = goal + size * (not crossed)
    return tuple(found)


def double_two_rows(half, seed):
    """A device of two rows with 2 * half states, half even, in which the opposite of the identity exchanges all."""
    s = in_rounds(half, 2, half // 2, seed)
    u = in_rounds(half, 3, half // 3 - seed % 2, seed + 1000)
    s_crossings = {state for state in range(half) if s[state] < state}
    u_crossings = {state for state in range(half) if u[state] == state or state == max(state, u[state], u[u[state]])}
    return Device(2, moves_of_turns(doubled(s, s_crossings), doubled(u, u_crossings)))


def still(n, size):
    """The device in which no step does anything."""
    return Device(n, {pair: tuple(range(size)) for pair in all_places(n)})


def twelve():
    """A device of two rows with the round 12, in which both steps go one round, in opposite directions."""
    there = tuple((state + 1) % 12 for state in range(12))
    return Device(2, {(0, 1): there, (1, 0): back(there)})


def samples():
    found = {
        "one of two": still(2, 1), "one of three": still(3, 1), "still 5": still(3, 5), "still 200": still(2, 200),
        "twelve": twelve(),
        "cosets 2 2": cosets_device(2, 2, []), "cosets 2 3": cosets_device(2, 3, []),
        "cosets 2 6": cosets_device(2, 6, [((1, 1), (0, 1))]), "cosets 3 2": cosets_device(3, 2, []),
        "eight": cosets_device(3, 2, [((0, 0, 1), (1, 0, 1), (0, 1, 0)), ((1, 0, 0), (0, 0, -1), (0, 1, 1))]),
        "beside": beside(lines_device(3, 2), beside(still(3, 2), planes_device(3, 3))),
    }
    for n, N in ((2, 2), (2, 3), (2, 6), (2, 16), (3, 2), (3, 4), (3, 6)):
        found[f"rows {n} {N}"] = rows_device(n, N)
    for n, N in ((2, 4), (2, 60), (3, 2), (3, 3), (3, 6), (3, 13)):
        found[f"lines {n} {N}"] = lines_device(n, N)
        found[f"planes {n} {N}"] = planes_device(n, N)
    for size, seed in ((1, 1), (2, 2), (4, 5), (7, 0), (7, 1), (9, 3), (24, 4), (50, 7), (200, 6), (200, 9)):
        found[f"two rows {size} {seed}"] = two_rows(size, seed)
    for half, seed in ((6, 0), (12, 1), (30, 2), (100, 3)):
        found[f"double {half} {seed}"] = double_two_rows(half, seed)
    return found


SAMPLES = samples()
SMALL_SAMPLES = {name: device for name, device in SAMPLES.items() if device.size <= 60}


# Exchanges of three rows that keep all rules but those of steps whose order means nothing.
NO_ORDER = {
    (0, 1): (2, 0, 3, 4, 1), (0, 2): (1, 2, 4, 0, 3), (1, 0): (4, 0, 3, 1, 2),
    (1, 2): (2, 3, 4, 0, 1), (2, 0): (3, 0, 1, 4, 2), (2, 1): (4, 2, 3, 0, 1),
}


def plain_free_rows(n, N):
    return [row for row in product(range(N), repeat=n) if gcd(N, *row) == 1]


def plain_led(N, table, row):
    return tuple(sum(item * other for item, other in zip(line, row)) % N for line in table)


def plain_least(N, row):
    return min(tuple(k * item % N for item in row) for k in range(1, N + 1) if gcd(k, N) == 1)


def plain_rest(N, table):
    return tuple(tuple(item % N for item in row) for row in table)


def plain_closure(n, N, tables):
    """All products of the rests of tables, by going on until nothing new comes."""
    found = {plain_rest(N, plain_identity(n))}
    new = list(found)
    while new:
        made = {plain_rest(N, plain_times(one, table)) for one in new for table in tables}
        new = list(made - found)
        found |= made
    return found


@lru_cache(maxsize=None)
def plain_all(n, N):
    return plain_closure(n, N, [plain_step(n, i, j, 1) for i, j in all_places(n)])
