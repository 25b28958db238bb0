"""Tables with three rows whose first row and column are cleared, and what is left led to the identity."""

from math import gcd

from rowsteps.descent import nearest_rest


def inverse_for(a, b):
    """Return a number whose product with a is 1 and a multiple of b; these have no common divisor but 1."""
    u, other_u = 1, 0
    left, other = a, b
    while other != 0:
        k = left // other
        u, other_u = other_u, u - k * other_u
        left, other = other, left - k * other
    return u * left


class Block:
    """A moving table with names for its places; a stands at (p, p).

    If the row r and the column r are those of the identity, the others hold a table with two rows.
    """

    def __init__(self, moving, p, q, r):
        self.moving = moving
        self.p = p
        self.q = q
        self.r = r

    def item(self, is_flipped, i, j):
        """Return the item (i, j), or (j, i) if this is flipped."""
        return self.moving.rows[j][i] if is_flipped else self.moving.rows[i][j]

    def free(self, is_flipped):
        """Add the row r to the row q until the items of p and q in the column p have no common divisor; or flipped."""
        a, b, c = [self.item(is_flipped, place, self.p) for place in (self.p, self.q, self.r)]
        k = 0
        while gcd(a, b + k * self.moving.modulus * c) != 1:
            k = -k if k > 0 else 1 - k
        self.moving.add_line(is_flipped, self.q, self.r, k)

    def clear_by(self, is_flipped):
        """Make the row p and the column p those of the identity; the column tells how, or, if flipped, the row."""
        p, q, r = self.p, self.q, self.r
        moving = self.moving
        if self.item(is_flipped, p, p) != 1:
            self.free(is_flipped)
            a, b, c = [self.item(is_flipped, place, p) for place in (p, q, r)]
            # The item of r becomes N, so that a turn makes a, which is 1 modulo N, equal to 1.
            missing = 1 - c // moving.modulus
            u = missing * inverse_for(a, b)
            v = 0
            if b != 0:
                u = nearest_rest(u, b)
                v = (missing - u * a) // b
            moving.add_line(is_flipped, r, p, u)
            moving.add_line(is_flipped, r, q, v)
            self.turn_line(is_flipped, p, r, (1 - self.item(is_flipped, p, p)) // moving.modulus)
        moving.clear_lines(p)

    def turn_line(self, is_flipped, i, j, t):
        """Add t times the row j to the row i by a turn, or, if flipped, the column j to the column i."""
        if is_flipped:
            self.moving.turn(j, i, -t)
        else:
            self.moving.turn(i, j, t)

    def bring(self, f):
        """Make the item (q, p) N * f, by multiples of a."""
        p, q = self.p, self.q
        left = f - self.item(False, q, p) // self.moving.modulus
        self.moving.add_row(q, p, left // self.item(False, p, p))

    def lend(self, is_flipped, d):
        """Make the item of q and p, below a, d times what it is, or, if flipped, the one beside a.

        Here d divides e, which a = 1 + N * e tells. The clear row and column become those of p; a moves to (r, r).
        """
        p, q, r = self.p, self.q, self.r
        moving = self.moving
        a = self.item(is_flipped, p, p)
        s = (a - 1) // moving.modulus // d
        # The determinant is 1, so the item (p, q) tells what makes 1 of a and of the item (q, p).
        v = nearest_rest(-self.item(is_flipped, p, q), a)
        u = (1 - v * self.item(is_flipped, q, p)) // a
        moving.add_line(is_flipped, r, p, s * u)
        moving.add_line(is_flipped, r, q, s * v)
        self.turn_line(is_flipped, p, r, -d)
        moving.clear_lines(p)
        self.p = r
        self.r = p

    def follow(self, plan):
        """Do the moves of a plan, which make a equal to 1, and then the rest."""
        for word, number in plan:
            if word == "bring":
                self.bring(number)
            elif word == "turn":
                self.moving.turn(self.p, self.q, number)
            else:
                self.lend(word == "share", number)
        self.moving.clear_lines(self.p)
