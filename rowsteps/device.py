"""Devices: states that the steps exchange, so that the rules of adding are kept."""

from math import lcm

from rowsteps.errors import BadDevice, BadState
from rowsteps.tables import check_places, check_table_of, is_number
from rowsteps.words import word_of

MOST_STATES = 200


def pairs_of(n):
    """Return the ascending list of the pairs of different places of n rows."""
    return [(i, j) for i in range(n) for j in range(n) if i != j]


def is_pair(n, value):
    """Return whether a value of any kind is a pair of different places of n rows."""
    if not isinstance(value, tuple) or len(value) != 2:
        return False
    # True and 1 are the same key of a dict, so the kind has to be asked for.
    return is_state(value[0], n) and is_state(value[1], n) and value[0] != value[1]


def is_state(value, size):
    """Return whether a value of any kind is an integer from 0 to size - 1."""
    return is_number(value) and 0 <= value < size


def is_exchange(value, size):
    """Return whether a value of any kind is a tuple in which each of so many states stands once."""
    if not isinstance(value, tuple) or len(value) != size:
        return False
    return all([is_state(item, size) for item in value]) and len(set(value)) == size


def joined(exchanges):
    """Return the product of a list of exchanges: the last one is done first."""
    states = list(range(len(exchanges[0])))
    for exchange in reversed(exchanges):
        states = [exchange[state] for state in states]
    return tuple(states)


def undone(exchange):
    """Return the inverse of an exchange."""
    found = [0] * len(exchange)
    for state, goal in enumerate(exchange):
        found[goal] = state
    return tuple(found)


def cycles_of(exchange):
    """Return for each state the tuple of the states that it goes through, and its place in it."""
    found = [None] * len(exchange)
    for start in range(len(exchange)):
        if found[start] is None:
            cycle = [start]
            while exchange[cycle[-1]] != start:
                cycle.append(exchange[cycle[-1]])
            for place, state in enumerate(cycle):
                found[state] = (tuple(cycle), place)
    return found


def check_kinds(n, moves):
    """Raise BadDevice if n is wrong, or `moves` is not a dict of exchanges with the right keys."""
    if not is_number(n) or n not in (2, 3):
        raise BadDevice("the number of rows is not 2 or 3")
    pairs = pairs_of(n)
    if not isinstance(moves, dict) or len(moves) != len(pairs) or not all([is_pair(n, key) for key in moves]):
        raise BadDevice("the keys are not the pairs of different places")
    first = moves[(0, 1)]
    if not isinstance(first, tuple) or not 1 <= len(first) <= MOST_STATES:
        raise BadDevice("an exchange is not a tuple of 1 to 200 states")
    if not all([is_exchange(moves[pair], len(first)) for pair in pairs]):
        raise BadDevice("a value is not an exchange, or not one of the same number of states")


def keeps_turning(moves):
    """Return whether the fourfold turn of the first two rows changes nothing."""
    there = moves[(0, 1)]
    turn = [there, undone(moves[(1, 0)]), there]
    return joined(turn * 4) == tuple(range(len(there)))


def keeps_two(moves):
    """Return whether the exchanges of two rows keep the rule that is theirs alone."""
    there = moves[(0, 1)]
    back = undone(moves[(1, 0)])
    return joined([there, back, there]) == joined([back, there, back])


def keeps_sums(moves):
    """Return whether the exchanges of three rows keep the rule that makes one step of two others."""
    for i, j in moves:
        k = 3 - i - j
        first, second = moves[(i, j)], moves[(j, k)]
        if joined([first, second, undone(first), undone(second)]) != moves[(i, k)]:
            return False
    return True


def keeps_orders(moves):
    """Return whether the exchanges of three rows keep the rule of steps whose order means nothing."""
    for i, j in moves:
        for k, other in moves:
            if j != k and i != other:
                first, second = moves[(i, j)], moves[(k, other)]
                if joined([first, second]) != joined([second, first]):
                    return False
    return True


def keeps_rules(n, moves):
    """Return whether the exchanges of n rows keep all rules."""
    if n == 2:
        return keeps_turning(moves) and keeps_two(moves)
    return keeps_turning(moves) and keeps_sums(moves) and keeps_orders(moves)


class Device:
    """States that the steps of tables of n rows exchange; `round` is the round of one step."""

    def __init__(self, n, moves):
        check_kinds(n, moves)
        if not keeps_rules(n, moves):
            raise BadDevice("a rule does not hold")
        self.n = n
        self.size = len(moves[(0, 1)])
        self._moves = {pair: moves[pair] for pair in pairs_of(n)}
        self._cycles = {pair: cycles_of(moves[pair]) for pair in pairs_of(n)}
        self.round = 1
        for cycle, _ in self._cycles[(0, 1)]:
            self.round = lcm(self.round, len(cycle))

    def move(self, i, j):
        """Return the exchange of the step (i, j)."""
        check_places(self.n, i, j)
        return self._moves[(i, j)]

    def led(self, word, state):
        """Return the state to which the steps of a word lead a state."""
        for i, j, k in reversed(word):
            # The k of a table may have any size, so a step done k times is looked up in the cycle of the state.
            cycle, place = self._cycles[(i, j)][state]
            state = cycle[(place + k) % len(cycle)]
        return state

    def act(self, table, state):
        """Return the state to which a table leads a state."""
        check_table_of(self.n, table)
        if not is_state(state, self.size):
            raise BadState("not a state of the device")
        return self.led(word_of(table), state)

    def exchange(self, table):
        """Return the tuple of the states to which a table leads all states."""
        check_table_of(self.n, table)
        word = word_of(table)
        return tuple([self.led(word, state) for state in range(self.size)])
