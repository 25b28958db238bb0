"""Devices whose states are made by remainders: rows, lines, planes and cosets."""

from math import gcd

from rowsteps.device import MOST_STATES, Device, pairs_of
from rowsteps.errors import TooLarge
from rowsteps.modulo import all_rows, all_squares, reduced
from rowsteps.tables import check_number, check_size, check_table_of, identity, inverse, row_times, step

MOST = 60
# The greatest N for cosets, for each number of rows.
MOST_COSETS = {2: 16, 3: 3}


def check_both(n, N):
    """Raise BadNumber if n is not 2 or 3, or N is not from 2 to 60."""
    check_size(n)
    check_number(N, 2, MOST)


def is_free(N, row):
    """Return whether the items of a row have, together with N, no common divisor but 1."""
    found = N
    for item in row:
        found = gcd(found, item)
    return found == 1


def free_rows(n, N):
    """Return the ascending list of the rows of n remainders that have no common divisor with N but 1."""
    return [row for row in all_rows(n, N) if is_free(N, row)]


def multiples(N, row):
    """Return the list of the rows that are one line with a row."""
    return [tuple([k * item % N for item in row]) for k in range(1, N) if gcd(k, N) == 1]


def numbered(members, kin):
    """Number the states that ascending members make; `kin` returns the list of those that are one with a member.

    Returns the list of the least members of the states, and the dict of the numbers of all members.
    """
    firsts = []
    numbers = {}
    for member in members:
        if member not in numbers:
            if len(firsts) == MOST_STATES:
                raise TooLarge("there were more than 200 states")
            for other in kin(member):
                numbers[other] = len(firsts)
            firsts.append(member)
    return firsts, numbers


def built(n, N, members, kin, led):
    """Return the device of such states; `led` returns to which member a table leads a member."""
    firsts, numbers = numbered(members, kin)
    moves = {}
    for i, j in pairs_of(n):
        table = step(n, i, j, 1)
        moves[(i, j)] = tuple([numbers[led(N, table, first)] for first in firsts])
    return Device(n, moves)


def led_row(N, table, row):
    """Return the row to which a table leads a row."""
    return tuple([sum([item * other for item, other in zip(line, row)]) % N for line in table])


def led_plane(N, table, row):
    """Return the row to which a table leads a row that stands for a plane."""
    return tuple([item % N for item in row_times(row, inverse(table))])


def times_modulo(N, first, second):
    """Return the product of two squares modulo N."""
    return reduced(N, [row_times(row, second) for row in first])


def rows_device(n, N):
    """Return the device with a state for each row that has no common divisor with N but 1."""
    check_both(n, N)
    return built(n, N, free_rows(n, N), lambda row: [row], led_row)


def lines_device(n, N):
    """Return the device of such rows in which the multiples of a row are one state."""
    check_both(n, N)
    return built(n, N, free_rows(n, N), lambda row: multiples(N, row), led_row)


def planes_device(n, N):
    """Return the device with the states of `lines_device` that tables lead as planes."""
    check_both(n, N)
    return built(n, N, free_rows(n, N), lambda row: multiples(N, row), led_plane)


def closed(N, one, makers):
    """Return the dict whose keys are all products of the makers, the empty one, `one`, too."""
    found = {one: True}
    waiting = [one]
    while waiting:
        member = waiting.pop()
        for maker in makers:
            other = times_modulo(N, maker, member)
            if other not in found:
                found[other] = True
                waiting.append(other)
    return found


def group_of(n, N, tables):
    """Return the list of the members of the least group that contains the rests of the tables."""
    one = reduced(N, identity(n))
    makers = []
    # There are finitely many members, so the inverse of each is a product of it: products alone are enough.
    found = {one: True}
    for table in tables:
        maker = reduced(N, table)
        # Only few of many tables can make the group larger, so it is seldom made anew.
        if maker not in found:
            makers.append(maker)
            found = closed(N, one, makers)
    return list(found)


def cosets_device(n, N, tables):
    """Return the device whose states are the sets g * H, for the group H that the tables make modulo N."""
    check_size(n)
    check_number(N, 2, MOST_COSETS[n])
    for table in tables:
        check_table_of(n, table)
    group = group_of(n, N, tables)
    members = all_squares(n, N)
    return built(n, N, members, lambda member: [times_modulo(N, member, other) for other in group], times_modulo)
