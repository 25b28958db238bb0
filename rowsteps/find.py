"""A paper of each table that is 1 modulo N and is known to have one."""

from rowsteps.papers import check_power
from rowsteps.small import paper_of_two
from rowsteps.tables import check_table
from rowsteps.three import paper_of_three


def paper(N, table):
    """Return a paper whose worth is a table that is 1 modulo N."""
    check_power(N)
    check_table(table)
    if len(table) == 2:
        return paper_of_two(N, table)
    return paper_of_three(N, table)
