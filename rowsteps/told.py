"""Whether what tables with two rows do to the states of a device is told by their remainders alone."""

from rowsteps.device import joined
from rowsteps.errors import BadDevice
from rowsteps.modulo import reduced
from rowsteps.tables import check_number, identity, step, times

MOST_ROUND = 16


def told_apart(device):
    """Return two tables that are alike modulo the round of a device but do something unlike, or None."""
    if device.n != 2:
        raise BadDevice("the device is not one of two rows")
    check_number(device.round, 1, MOST_ROUND)
    steps = [(step(2, i, j, 1), device.move(i, j)) for i, j in ((0, 1), (1, 0))]
    one = identity(2)
    found = {reduced(device.round, one): (one, tuple(range(device.size)))}
    waiting = [(one, tuple(range(device.size)))]
    # What is added to the list meanwhile has its turn later, so the first ways, and with them the tables, are short.
    at = 0
    while at < len(waiting):
        table, exchange = waiting[at]
        at += 1
        for other, move in steps:
            way = (times(table, other), joined([exchange, move]))
            rests = reduced(device.round, way[0])
            if rests not in found:
                found[rests] = way
                waiting.append(way)
            elif found[rests][1] != way[1]:
                return (found[rests][0], way[0])
    return None
