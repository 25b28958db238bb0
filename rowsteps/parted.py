"""Parts of devices, devices with other names for the states, and devices made of two others."""

from rowsteps.device import MOST_STATES, Device, is_exchange, is_state, pairs_of, undone
from rowsteps.errors import BadDevice, BadLot, TooLarge


def moves_of(device):
    """Return the list of the exchanges of a device, in the order of their pairs."""
    return [device.move(i, j) for i, j in pairs_of(device.n)]


def piece_from(device, start):
    """Return the ascending tuple of the states to which a state is led by some tables."""
    moves = moves_of(device)
    found = {start: True}
    waiting = [start]
    # An exchange done often enough is its own inverse, so going forwards reaches all of them.
    while waiting:
        state = waiting.pop()
        for move in moves:
            if move[state] not in found:
                found[move[state]] = True
                waiting.append(move[state])
    return tuple(sorted(found))


def pieces(device):
    """Return the list of the pieces of a device, in the order of their first states."""
    found = []
    seen = {}
    for start in range(device.size):
        if start not in seen:
            piece = piece_from(device, start)
            found.append(piece)
            for state in piece:
                seen[state] = True
    return found


def is_lot(value, size):
    """Return whether a value of any kind is an ascending tuple of at least one state."""
    if not isinstance(value, tuple) or len(value) == 0:
        return False
    if not all([is_state(item, size) for item in value]):
        return False
    return all([value[at] < value[at + 1] for at in range(len(value) - 1)])


def retold(device, states, names):
    """Return the device whose states, from 0 on, are those of a list; an exchange leads to the name of the goal."""
    moves = {}
    for i, j in pairs_of(device.n):
        move = device.move(i, j)
        moves[(i, j)] = tuple([names[move[state]] for state in states])
    return Device(device.n, moves)


def piece_of(device, lot):
    """Return the device whose states are the members of a lot that no step leads out of."""
    if not is_lot(lot, device.size):
        raise BadLot("not an ascending tuple of states")
    names = {state: at for at, state in enumerate(lot)}
    for move in moves_of(device):
        if not all([move[state] in names for state in lot]):
            raise BadLot("a step leads out of the lot")
    return retold(device, lot, names)


def merged(device, lots):
    """Return the device whose states are lots of states."""
    if not isinstance(lots, list) or not all([is_lot(lot, device.size) for lot in lots]):
        raise BadLot("not a list of ascending tuples of states")
    names = {state: at for at, lot in enumerate(lots) for state in lot}
    if len(names) != device.size or sum([len(lot) for lot in lots]) != device.size:
        raise BadLot("the lots do not hold each state once")
    for move in moves_of(device):
        for lot in lots:
            if not all([names[move[state]] == names[move[lot[0]]] for state in lot]):
                raise BadLot("a step leads the members of a lot to several lots")
    return retold(device, [lot[0] for lot in lots], names)


def renamed(device, order):
    """Return the device in which each state s is named order[s]."""
    if not is_exchange(order, device.size):
        raise BadLot("not a tuple with each state once")
    return retold(device, undone(order), order)


def carried(first, second, start, goal):
    """Return the dict that carries the piece of a state to that of a goal as the steps do, or None."""
    both = list(zip(moves_of(first), moves_of(second)))
    found = {start: goal}
    waiting = [start]
    while waiting:
        state = waiting.pop()
        for move, other in both:
            if move[state] not in found:
                found[move[state]] = other[found[state]]
                waiting.append(move[state])
            elif found[move[state]] != other[found[state]]:
                return None
    # A large piece may be laid over a small one several times: that is no new name for each state.
    return found if len(set(list(found.values()))) == len(found) else None


def least_carried(first, second, start, taken):
    """Return what `carried` returns for the least goal that is not taken and for which it is not None, or None."""
    for goal in range(second.size):
        if goal not in taken:
            found = carried(first, second, start, goal)
            if found is not None:
                return found
    return None


def likeness(first, second):
    """Return the least order with which the second device is the first one renamed, or None."""
    if first.n != second.n or first.size != second.size:
        return None
    order = {}
    taken = {}
    # The names of one piece tell nothing about those of another one but which pieces are left, and of these any
    # that are alike do as well; so the least name for each state in turn is the least order.
    for start in range(first.size):
        if start not in order:
            found = least_carried(first, second, start, taken)
            if found is None:
                return None
            for state, goal in found.items():
                order[state] = goal
                taken[goal] = True
    return tuple([order[state] for state in range(first.size)])


def check_both(first, second, size):
    """Raise BadDevice if the numbers of rows differ, and then TooLarge if there were too many states."""
    if first.n != second.n:
        raise BadDevice("the two devices have unlike numbers of rows")
    if size > MOST_STATES:
        raise TooLarge("there were more than 200 states")


def beside(first, second):
    """Return the device with the states of the first one and then those of the second one."""
    check_both(first, second, first.size + second.size)
    moves = {}
    for i, j in pairs_of(first.n):
        moves[(i, j)] = first.move(i, j) + tuple([first.size + goal for goal in second.move(i, j)])
    return Device(first.n, moves)


def paired(first, second):
    """Return the device with the pairs of states of two devices."""
    check_both(first, second, first.size * second.size)
    moves = {}
    for i, j in pairs_of(first.n):
        goals = [(a, b) for a in first.move(i, j) for b in second.move(i, j)]
        moves[(i, j)] = tuple([a * second.size + b for a, b in goals])
    return Device(first.n, moves)
