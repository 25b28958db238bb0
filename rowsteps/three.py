"""Papers of tables with three rows that are 1 modulo N."""

from math import gcd

from rowsteps.blocks import Block
from rowsteps.descent import nearest_rest, plan_at_once, plan_of
from rowsteps.errors import NotAlike, TooLong
from rowsteps.modulo import is_alike
from rowsteps.moving import Moving
from rowsteps.papers import check_power, piled_factors
from rowsteps.peeling import length_of, peel
from rowsteps.small import MOST, paper_of_two
from rowsteps.tables import check_table_of, identity

# The places of the rows in all orders.
ORDERS = ((0, 1, 2), (0, 2, 1), (1, 0, 2), (1, 2, 0), (2, 0, 1), (2, 1, 0))


def clear_place(table):
    """Return the greatest place whose row and column are those of the identity, or None."""
    one = identity(3)
    for place in (2, 1, 0):
        if table[place] == one[place] and tuple([row[place] for row in table]) == one[place]:
            return place
    return None


def inverse_for(a, b):
    """Return a number whose product with a is 1 and a multiple of b; these have no common divisor but 1."""
    u, other_u = 1, 0
    left, other = a, b
    while other != 0:
        k = left // other
        u, other_u = other_u, u - k * other_u
        left, other = other, left - k * other
    return u * left


def make_free(moving, is_flipped, p, q, r):
    """Add the row r to the row q, or so with columns, until the items of q and p in p have no common divisor."""
    block = Block(moving, p, q, r)
    a, b, c = [block.item(is_flipped, at, p) for at in (p, q, r)]
    k = 0
    while gcd(a, b + k * moving.modulus * c) != 1:
        k = -k if k > 0 else 1 - k
    moving.add_line(is_flipped, q, r, k)


def clear_lines_of(moving, is_flipped, p, q, r):
    """Make the row p and the column p those of the identity; the column tells how, or, if flipped, the row."""
    N = moving.modulus
    block = Block(moving, p, q, r)
    if block.item(is_flipped, p, p) != 1:
        make_free(moving, is_flipped, p, q, r)
        a, b, c = [block.item(is_flipped, at, p) for at in (p, q, r)]
        # The item of r becomes N.
        missing = 1 - c // N
        u = missing * inverse_for(a, b)
        v = 0
        if b != 0:
            u = nearest_rest(u, b)
            v = (missing - u * a) // b
        moving.add_line(is_flipped, r, p, u)
        moving.add_line(is_flipped, r, q, v)
        t = (1 - block.item(is_flipped, p, p)) // N
        if is_flipped:
            moving.turn(r, p, -t)
        else:
            moving.turn(p, r, t)
    moving.clear_lines(p)


def cleared(N, table):
    """Return the moving table, with a clear row and column, that is the least for going on with."""
    best = None
    least = ()
    for p, q, r in ORDERS:
        for is_flipped in (False, True):
            moving = Moving(N, table)
            clear_lines_of(moving, is_flipped, p, q, r)
            sizes = [abs(moving.rows[i][j]) for i in (q, r) for j in (q, r)]
            # A table with two rows can be made about as small as its least item.
            size = (min(sizes).bit_length(), length_of(moving.rows))
            if best is None or size < least:
                best = moving
                least = size
    return best


def two_rows(table, p, q):
    """Return what the rows p and q have in the columns p and q."""
    return tuple([tuple([table[i][j] for j in (p, q)]) for i in (p, q)])


def placed(table, p, q):
    """Return the table with three rows that has a table with two rows at the places of p and q."""
    rows = [list(row) for row in identity(3)]
    for i, row in zip((p, q), table):
        rows[i][p] = row[0]
        rows[i][q] = row[1]
    return tuple([tuple(row) for row in rows])


def paper_at(N, table, p, q):
    """Return the paper of a table with two rows at the places of p and q, for N to 5."""
    places = (p, q)
    paper = paper_of_two(N, two_rows(table, p, q))
    return tuple([(placed(C, p, q), places[i], places[j], k) for C, i, j, k in paper])


def led_to_one(moving, p, q, r):
    """Lead a moving table, whose row r and column r are clear, to the identity, or raise TooLong."""
    N = moving.modulus
    (a, b), (c, d) = two_rows(moving.rows, p, q)
    plan = plan_at_once(N, a, c // N)
    if plan is None and min(abs(b), abs(d)) < min(abs(a), abs(c)):
        p, q, a, c = q, p, d, b
        plan = plan_at_once(N, a, c // N)
    if plan is None:
        plan = plan_of(N, a, c // N)
    if plan is None:
        raise TooLong("no paper was found within the bounds")
    Block(moving, p, q, r).follow(plan)


def paper_of_three(N, table):
    """Return a paper whose worth is a table with three rows that is 1 modulo N."""
    check_power(N)
    check_table_of(3, table)
    if not is_alike(N, table, identity(3)):
        raise NotAlike("the table is not the identity modulo N")
    before, behind = [], []
    if clear_place(table) is None:
        before, table, behind = peel(N, table)
    moving = Moving(N, table) if clear_place(table) is not None else cleared(N, table)
    r = clear_place(moving.rows)
    p, q = [place for place in range(3) if place != r]
    middle = ()
    if N <= MOST:
        middle = paper_at(N, moving.rows, p, q)
    else:
        led_to_one(moving, p, q, r)
    return piled_factors(tuple(before) + moving.paper(middle) + tuple(behind))
