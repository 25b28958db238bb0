"""Papers of tables with three rows that are 1 modulo N."""

from rowsteps.blocks import Block
from rowsteps.descent import plan_at_once, plan_of
from rowsteps.errors import NotAlike, TooLong
from rowsteps.modulo import is_alike
from rowsteps.moving import Moving
from rowsteps.papers import check_power, piled_factors
from rowsteps.peeling import length_of, peel
from rowsteps.small import MOST, paper_of_two
from rowsteps.tables import check_table_of, identity

# The places of the rows in all orders.
ORDERS = ((0, 1, 2), (0, 2, 1), (1, 0, 2), (1, 2, 0), (2, 0, 1), (2, 1, 0))


def clear_place(table):
    """Return the greatest place whose row and column are those of the identity, or None."""
    one = identity(3)
    for place in (2, 1, 0):
        if table[place] == one[place] and tuple([row[place] for row in table]) == one[place]:
            return place
    return None


def cleared(N, table):
    """Return the moving table, with a clear row and column, that is the least for going on with."""
    best = None
    least = ()
    for p, q, r in ORDERS:
        for is_flipped in (False, True):
            moving = Moving(N, table)
            Block(moving, p, q, r).clear_by(is_flipped)
            sizes = [abs(moving.rows[i][j]) for i in (q, r) for j in (q, r)]
            # A table with two rows can be made about as small as its least item.
            size = (min(sizes).bit_length(), length_of(moving.rows))
            if best is None or size < least:
                best = moving
                least = size
    return best


def two_rows(table, p, q):
    """Return what the rows p and q have in the columns p and q."""
    return tuple([tuple([table[i][j] for j in (p, q)]) for i in (p, q)])


def placed(table, p, q):
    """Return the table with three rows that has a table with two rows at the places of p and q."""
    rows = [list(row) for row in identity(3)]
    for i, row in zip((p, q), table):
        rows[i][p] = row[0]
        rows[i][q] = row[1]
    return tuple([tuple(row) for row in rows])


def paper_at(N, table, p, q):
    """Return the paper of a table with two rows at the places of p and q, for N to 5."""
    places = (p, q)
    paper = paper_of_two(N, two_rows(table, p, q))
    return tuple([(placed(C, p, q), places[i], places[j], k) for C, i, j, k in paper])


def plan_for(N, table, p, q):
    """Return the places p and q, perhaps exchanged, and a plan for the column p that makes a equal to 1."""
    (a, b), (c, d) = two_rows(table, p, q)
    plan = plan_at_once(N, a, c // N)
    if plan is None and min(abs(b), abs(d)) < min(abs(a), abs(c)):
        p, q, a, c = q, p, d, b
        plan = plan_at_once(N, a, c // N)
    if plan is None:
        plan = plan_of(N, a, c // N)
    if plan is None:
        raise TooLong("no paper was found within the bounds")
    return p, q, plan


def paper_of_three(N, table):
    """Return a paper whose worth is a table with three rows that is 1 modulo N."""
    check_power(N)
    check_table_of(3, table)
    if not is_alike(N, table, identity(3)):
        raise NotAlike("the table is not the identity modulo N")
    before, behind = [], []
    if clear_place(table) is None:
        before, table, behind = peel(N, table)
    moving = Moving(N, table) if clear_place(table) is not None else cleared(N, table)
    r = clear_place(moving.rows)
    p, q = [place for place in range(3) if place != r]
    rest = ()
    if N <= MOST:
        rest = paper_at(N, moving.rows, p, q)
    else:
        p, q, plan = plan_for(N, moving.rows, p, q)
        Block(moving, p, q, r).follow(plan)
    return piled_factors(tuple(before) + moving.paper(rest) + tuple(behind))
