"""Tables with two rows that are the identity modulo N but are not made for N."""

from math import gcd

from rowsteps.errors import BadNumber
from rowsteps.tables import check_number, inverse, is_number, step, times
from rowsteps.turning import LEAST, MOST

# The least N for which such a table exists.
LEAST_APART = 6


def turned_step(N, u):
    """Return the table H * T * H ** -1 * T ** (-u * u) for the tables H with the first column (u, N)."""
    check_number(N, LEAST, MOST)
    if not is_number(u) or gcd(u, N) != 1:
        raise BadNumber("u is not an integer without a common divisor with N")
    return ((1 - u * N, u * u * u * N), (-N * N, 1 + u * N + u * u * N * N))


def apart_in_the_plane():
    """Return the told table for N = 6, where the triangle of the mirrors lies in the plane."""
    first = step(2, 0, 1, 3)
    # S * T * S ** -1 is the step (1, 0) taken -1 times.
    second = step(2, 1, 0, -2)
    return times(times(first, second), times(inverse(first), inverse(second)))


def apart(N):
    """Return a table that is the identity modulo N but not made for N."""
    check_number(N, LEAST_APART, MOST)
    if N == LEAST_APART:
        return apart_in_the_plane()
    u = 2
    while gcd(u, N) != 1 or u % N in (1, N - 1):
        u += 1
    return turned_step(N, u)
