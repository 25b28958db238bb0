"""Tables with three rows that are a table with two rows and a 1 beside it, led to the identity along a plan."""

from rowsteps.descent import nearest_rest


class Block:
    """A moving table in which the row r and the column r are those of the identity.

    What the rows p and q have in the columns p and q is a table with two rows; a stands at (p, p).
    """

    def __init__(self, moving, p, q, r):
        self.moving = moving
        self.p = p
        self.q = q
        self.r = r

    def item(self, is_flipped, i, j):
        """Return the item (i, j), or (j, i) if this is flipped."""
        return self.moving.rows[j][i] if is_flipped else self.moving.rows[i][j]

    def bring(self, f):
        """Make the item (q, p) N * f, by multiples of a."""
        p, q = self.p, self.q
        left = f - self.item(False, q, p) // self.moving.modulus
        self.moving.add_row(q, p, left // self.item(False, p, p))

    def lend(self, is_flipped, d):
        """Make the item (q, p) d times what it is, and the item (p, q) d times less modulo a; or so flipped.

        Here d divides e, which a = 1 + N * e tells. The clear row and column become those of p; a moves to (r, r).
        """
        p, q, r = self.p, self.q, self.r
        moving = self.moving
        a = self.item(is_flipped, p, p)
        s = (a - 1) // moving.modulus // d
        # The determinant is 1, so the item (p, q) tells what makes 1 of a and of the item (q, p).
        v = nearest_rest(-self.item(is_flipped, p, q), a)
        u = (1 - v * self.item(is_flipped, q, p)) // a
        moving.add_line(is_flipped, r, p, s * u)
        moving.add_line(is_flipped, r, q, s * v)
        if is_flipped:
            moving.turn(r, p, d)
        else:
            moving.turn(p, r, -d)
        moving.clear_lines(p)
        self.p = r
        self.r = p

    def follow(self, plan):
        """Do the moves of a plan, which make a equal to 1, and then the rest."""
        for word, number in plan:
            if word == "bring":
                self.bring(number)
            elif word == "turn":
                self.moving.turn(self.p, self.q, number)
            else:
                self.lend(word == "share", number)
        self.moving.clear_lines(self.p)
