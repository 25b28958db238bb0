"""What the remainders of tables alone tell about what the tables do to the states of a device."""

from rowsteps.device import is_state, pairs_of
from rowsteps.errors import BadDevice, BadState, BadTable, TooLarge
from rowsteps.modulo import MOST, count, is_square, word_modulo
from rowsteps.parted import piece_from
from rowsteps.told import MOST_ROUND, told_apart
from rowsteps.words import table_of


def check_three(device):
    """Raise BadDevice if a device has two rows, and then TooLarge if its round is too large for remainders."""
    if device.n != 3:
        raise BadDevice("the device is not one of three rows")
    if device.round > MOST:
        raise TooLarge("the round is greater than the numbers for which there are remainders")


def check_state(device, value):
    """Raise BadState if a value is not a state of a device."""
    if not is_state(value, device.size):
        raise BadState("not a state of the device")


def act_modulo(device, table, state):
    """Return the state to which all tables lead a state that are alike, modulo the round, to what is given."""
    check_three(device)
    if not is_square(device.round, table) or len(table) != 3:
        raise BadTable("not three rows with a determinant that is 1 modulo the round")
    check_state(device, state)
    return device.led(word_modulo(device.round, table), state)


def number_kept(device, state):
    """Return how many tables of remainders modulo the round lead a state to itself."""
    check_three(device)
    check_state(device, state)
    return count(3, device.round) // len(piece_from(device, state))


def ways_from(device, start):
    """Return the dict that tells, for each state of the piece of a state, the last step to it and what is before."""
    found = {start: None}
    waiting = [start]
    # What is added to the list meanwhile has its turn later, so the ways are short.
    at = 0
    while at < len(waiting):
        state = waiting[at]
        at += 1
        for i, j in pairs_of(device.n):
            led = device.move(i, j)[state]
            if led not in found:
                found[led] = (i, j, state)
                waiting.append(led)
    return found


def gone(device, start, goal):
    """Return a table that leads a state to another one, or None if there is none."""
    check_state(device, start)
    check_state(device, goal)
    ways = ways_from(device, start)
    if goal not in ways:
        return None
    # The step that is done last stands first in the product.
    word = []
    way = ways[goal]
    while way is not None:
        i, j, state = way
        word.append((i, j, 1))
        way = ways[state]
    return table_of(device.n, word)


def is_told(device):
    """Return whether what a table does depends on its remainders modulo the round of a device alone."""
    if device.n == 3:
        return True
    if device.round > MOST_ROUND:
        raise TooLarge("the round is greater than those for which this is worked out")
    return told_apart(device) is None
