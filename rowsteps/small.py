"""Papers of tables with two rows, for N from 2 to 5: the representatives of the turns, and the ties between them."""

from rowsteps.errors import BadPlace, NotAlike
from rowsteps.modulo import is_alike, reduced
from rowsteps.papers import multiplied, piled_factors, undone_factors
from rowsteps.tables import check_number, check_table_of, identity, inverse, is_number, times
from rowsteps.words import word_of

LEAST = 2
MOST = 5
OPPOSITE = ((-1, 0), (0, -1))
# The tables of the letters.
LETTERS = {"S": ((0, -1), (1, 0)), "T": ((1, 1), (0, 1))}
# The paper of the opposite of the identity, for N = 2.
PAPER_OF_OPPOSITE = ((((1, 0), (0, 1)), 0, 1, 1), (((1, 0), (0, 1)), 1, 0, -1), (((1, 0), (1, 1)), 0, 1, 1))


def check_small(N):
    """Raise BadNumber if N is not from 2 to 5."""
    check_number(N, LEAST, MOST)


def turn_of(N, table):
    """Return the same rows of remainders for all tables that belong to the turn of a table, and for no others."""
    return min(reduced(N, table), reduced(N, times(OPPOSITE, table)))


class Ball:
    """The representatives for N as points on a ball, with a way from each of them by each letter.

    `goals` has the place to which a way leads, `papers` the paper of a way whose paper is known.
    """

    def __init__(self, N):
        self.modulus = N
        self.tables = [identity(2)]
        self.goals = {}
        self.papers = {}
        self.draw()

    def draw(self):
        """Find the representatives and the ways; those by which they are found form a tree."""
        places = {turn_of(self.modulus, self.tables[0]): 0}
        place = 0
        while place < len(self.tables):
            for letter in ("S", "T"):
                table = times(self.tables[place], LETTERS[letter])
                turn = turn_of(self.modulus, table)
                if turn not in places:
                    places[turn] = len(self.tables)
                    self.tables.append(table)
                    # Along the tree the product of the tables is the identity.
                    self.papers[(place, letter)] = ()
                self.goals[(place, letter)] = places[turn]
            place += 1

    def round_from(self, place, letters):
        """Return the list of the ways by which one comes back to a place along the letters."""
        ways = []
        for letter in letters:
            ways.append((place, letter))
            place = self.goals[(place, letter)]
        return ways

    def rounds(self):
        """Return the list of the rounds: the ways of each, and the paper of the product along it."""
        found = []
        for letters in ("SS", "T" * self.modulus, "STSTST"):
            for place, table in enumerate(self.tables):
                # The same round comes again from its other places; that does no harm.
                paper = ((table, 0, 1, 1),) if letters[0] == "T" else ()
                found.append((self.round_from(place, letters), paper))
        return found

    def learn(self, ways, paper):
        """Work out the paper of the one way of a round whose paper is not known, if there is just one."""
        unknown = [at for at, way in enumerate(ways) if way not in self.papers]
        if len(unknown) != 1:
            return
        at = unknown[0]
        before, behind = [], []
        for way in ways[:at]:
            before.extend(self.papers[way])
        for way in ways[at + 1:]:
            behind.extend(self.papers[way])
        found = undone_factors(before) + paper + undone_factors(behind)
        self.papers[ways[at]] = piled_factors(found)

    def product_along(self, way):
        """Return the table of the place of a way times that of its letter times the inverse of that of its goal."""
        place, letter = way
        return times(times(self.tables[place], LETTERS[letter]), inverse(self.tables[self.goals[way]]))

    def learn_all(self):
        """Work out the papers of all ways."""
        rounds = self.rounds()
        # There is always a round with just one unknown way, so each time some rounds are done with.
        while len(rounds) > 0:
            for ways, paper in rounds:
                self.learn(ways, paper)
            rounds = [(ways, paper) for ways, paper in rounds if not all([way in self.papers for way in ways])]
        if self.modulus == 2:
            self.set_signs()

    def set_signs(self):
        """Make the worths of the papers for N = 2 the products along the ways, and not their opposites."""
        # From N = 3 on this needs no care: a product and its opposite are not both 1 modulo N.
        for way in self.goals:
            if multiplied(2, 2, self.papers[way]) != self.product_along(way):
                self.papers[way] = self.papers[way] + PAPER_OF_OPPOSITE


class Walk:
    """A way through the ball from the first representative on, and the factors of the papers along it."""

    def __init__(self, ball):
        self.ball = ball
        self.place = 0
        self.factors = []

    def go(self, letter):
        """Go one way."""
        self.factors.extend(self.ball.papers[(self.place, letter)])
        self.place = self.ball.goals[(self.place, letter)]

    def go_by_T(self, k):
        """Go k ways by T; each N of them come back to the place, and are one factor for all of them."""
        rounds = k // self.ball.modulus
        if rounds != 0:
            self.factors.append((self.ball.tables[self.place], 0, 1, rounds))
        for _ in range(k % self.ball.modulus):
            self.go("T")


def representatives(N):
    """Return the list of the representatives: one table for each turn for N."""
    check_small(N)
    return Ball(N).tables


def tie(N, place, letter):
    """Return the place to which a letter leads from a place, and the paper of the product along this way."""
    check_small(N)
    ball = Ball(N)
    if not is_number(place) or not 0 <= place < len(ball.tables):
        raise BadPlace("not a place of the list of the representatives")
    if not isinstance(letter, str) or letter not in ("S", "T"):
        raise BadPlace("the letter is neither S nor T")
    ball.learn_all()
    return ball.goals[(place, letter)], ball.papers[(place, letter)]


def paper_of_two(N, table):
    """Return a paper whose worth is a table with two rows that is 1 modulo N."""
    check_small(N)
    check_table_of(2, table)
    if not is_alike(N, table, identity(2)):
        raise NotAlike("the table is not the identity modulo N")
    ball = Ball(N)
    ball.learn_all()
    walk = Walk(ball)
    is_opposite = False
    for i, _, k in word_of(table):
        if i == 0:
            walk.go_by_T(k)
        else:
            # This step is S * T ** -k * S ** -1, and so the opposite of S * T ** -k * S.
            walk.go("S")
            walk.go_by_T(-k)
            walk.go("S")
            is_opposite = not is_opposite
    # From N = 3 on the signs agree, as the table and the worth of the paper are both 1 modulo N.
    if N == 2 and is_opposite:
        walk.factors.extend(PAPER_OF_OPPOSITE)
    return piled_factors(walk.factors)
