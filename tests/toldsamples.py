"""Devices of two rows for the tests, and whether remainders tell what tables do in them, worked out anew."""

from rowsteps.made import cosets_device, lines_device, planes_device, rows_device
from rowsteps.modulo import count
from rowsteps.parted import beside, paired, renamed
from tests.devicesamples import mixed, plain_rest, still, then, two_rows
from tests.samples import plain_identity, plain_step, plain_times

STEPS = ((0, 1), (1, 0))


def is_told_plainly(device):
    """Go through the pairs of a rest and an exchange that tables have: each rest comes with one exchange only?"""
    makers = [(plain_step(2, i, j, 1), device.move(i, j)) for i, j in STEPS]
    one = (plain_rest(device.round, plain_identity(2)), tuple(range(device.size)))
    found, new = {one}, [one]
    while new and len(found) <= count(2, device.round):
        table, exchange = new.pop()
        for maker, move in makers:
            pair = (plain_rest(device.round, plain_times(table, maker)), then(move, exchange))
            if pair not in found:
                found.add(pair)
                new.append(pair)
    return len(found) == count(2, device.round)


def remainder_devices():
    found = [still(2, 1), still(2, 5)]
    for N in range(2, 13):
        found.append(lines_device(2, N))
        found.append(renamed(planes_device(2, N), mixed(planes_device(2, N).size, N)))
    found += [rows_device(2, N) for N in (2, 3, 5, 7, 12)]
    found += [cosets_device(2, 3, []), cosets_device(2, 4, [((1, 1), (0, 1))]), cosets_device(2, 5, [((0, -1), (1, 0))])]
    found += [beside(found[2], found[4]), beside(lines_device(2, 3), lines_device(2, 4))]
    found += [paired(lines_device(2, 2), lines_device(2, 3)), paired(rows_device(2, 2), lines_device(2, 4))]
    found += [paired(lines_device(2, 5), lines_device(2, 5))]
    return found


def small_devices():
    """Devices of two rows on 1 to 11 states whose exchanges are mixed."""
    found = []
    for size in range(1, 12):
        for seed in range(24):
            device = two_rows(size, 1000 * size + seed)
            if device.round <= 16:
                found.append(device)
    return found
