"""The moves by which the first column of a table with two rows that is 1 modulo N is led to a = 1.

The column is (a, N * f), and a = 1 + N * e. A plan is a list of pairs of a word and an integer, in their order:
"turn" and t: t times N * f is added to a; "bring" and g: f becomes g, which leaves the same rest modulo a;
"lend" and d, a divisor of e: f becomes, modulo a, d * f; "share" and d: f becomes, modulo a, f divided by d.
"""

from heapq import heappop, heappush

# How far the turns of one search reach; if it ends without a plan, the next one reaches farther.
REACHES = (3, 8, 30, 100)
# Up to this size all products of three divisors are tried.
DIRECT = 100000
# Up to this size divisors are found with greater primes, and are taken two at a time.
CLOSE = 1000000000000
NEAR_PRIMES = 400
FAR_PRIMES = 40
MOST_DIVISORS = 36
# How many binary figures less one more divisor has to be worth.
COST = 2


def nearest_rest(number, modulus):
    """Return the rest of a number modulo another one that is nearest to 0."""
    left = number % abs(modulus)
    return left - abs(modulus) if 2 * left > abs(modulus) else left


def divisors_of(number, bound):
    """Return the ascending list of the divisors of a number that is not 0, as far as they are found by a bound.

    They are the products of primes up to the bound, and of what is left if this is plainly a prime.
    """
    left = abs(number)
    found = [1]
    p = 2
    while p <= bound and p * p <= left:
        parts = found
        while left % p == 0:
            left = left // p
            parts = [p * part for part in parts]
            found = found + parts
        p += 1
    if 1 < left < p * p:
        found = found + [left * part for part in found]
    return sorted(found)


class Column:
    """A column (a, N * f), with the divisors of e that are known, and what they lead f to."""

    def __init__(self, N, a, f, most):
        self.a = a
        self.f = f
        self.e = (a - 1) // N
        self.modulus = abs(a)
        bound = NEAR_PRIMES if self.modulus < CLOSE else FAR_PRIMES
        divisors = divisors_of(self.e, bound)[:most]
        # If f is a divisor of e or the opposite of one, a turn makes a equal to 1.
        self.goals = {}
        self.factors = []
        for d in divisors:
            self.goals[-d % self.modulus] = -d
            self.goals[d % self.modulus] = d
            if d > 1:
                # d times N * (e / d) is a - 1, so the opposite of N * (e / d) is the inverse of d.
                self.factors.append((d % self.modulus, ("lend", d)))
                self.factors.append((-N * (self.e // d) % self.modulus, ("share", d)))

    def farther(self, ways):
        """Return the ways, pairs of a rest and a plan, with one more divisor each; no rest comes twice."""
        found = {}
        for left, plan in ways:
            for factor, move in self.factors:
                other = left * factor % self.modulus
                if other not in found:
                    found[other] = [*plan, move]
        return list(found.items())

    def last_moves(self, rest_of_f):
        """Return the moves by which a becomes 1, if f leaves the rest of a goal."""
        goal = self.goals[rest_of_f]
        return [("bring", goal), ("turn", -(self.e // goal))]


def plan_at_once(N, a, f):
    """Return a plan with at most three divisors of the e that belongs to a, or None if there is none.

    It is found if f is, modulo a, plus or minus a product of at most three divisors or inverses of such.
    """
    if a == 1:
        return []
    if abs(a) > DIRECT:
        return None
    column = Column(N, a, f, DIRECT)
    ways = [(f % column.modulus, [])]
    for at in range(3):
        for left, plan in ways:
            if left in column.goals:
                return plan + column.last_moves(left)
        if at < 2:
            ways = column.farther(ways)
    # A third divisor leads f to a goal if its inverse leads the goal to f.
    before = {}
    for goal in column.goals:
        for factor, (word, d) in column.factors:
            before[goal * factor % column.modulus] = ("share" if word == "lend" else "lend", d, goal)
    for left, plan in ways:
        if left in before:
            word, d, goal = before[left]
            return [*plan, (word, d)] + column.last_moves(goal)
    return None


def settled(N, a, f):
    """Return the column that turns and multiples of a make as small as they can, and the plan that leads to it."""
    plan = []
    is_smaller = True
    while is_smaller and a != 1:
        is_smaller = False
        left = nearest_rest(f, a)
        if abs(left) < abs(f):
            f = left
            plan.append(("bring", f))
            is_smaller = True
        left = nearest_rest(a, N * f)
        if abs(left) < abs(a):
            plan.append(("turn", (left - a) // (N * f)))
            a = left
            is_smaller = True
    return a, f, plan


class Search:
    """A search for a plan: the columns that are found, the one with the least f next."""

    def __init__(self, N, a, f):
        self.modulus = N
        self.found = []
        self.seen = {}
        self.queue = []
        self.plan = None
        self.note(a, f, None, [])

    def note(self, a, f, place, plan):
        """Note the column that a plan leads to from the column at a place; if it is a last one, the plan is found."""
        a, f, more = settled(self.modulus, a, f)
        plan = plan + more
        if a == 1 or (a - 1) // self.modulus % f == 0:
            last = [] if a == 1 else [("turn", -((a - 1) // self.modulus // f))]
            self.plan = self.way_to(place) + plan + last
        elif (a, f) not in self.seen:
            self.seen[(a, f)] = True
            heappush(self.queue, (abs(f), len(self.found)))
            self.found.append((a, f, place, plan))

    def way_to(self, place):
        """Return the whole plan that leads to the column at a place."""
        plans = []
        while place is not None:
            _, _, place_before, plan = self.found[place]
            plans.append(plan)
            place = place_before
        return [move for moves in plans[::-1] for move in moves]

    def look(self, column, place, plan, depth):
        """Note what divisors make of a column, or find the plan; `plan` leads to it from the column at a place."""
        ways = [(column.f % column.modulus, [])]
        best = None
        least = 0
        for at in range(depth + 1):
            for left, more in ways:
                if left in column.goals:
                    self.plan = self.way_to(place) + plan + more + column.last_moves(left)
                    return
                size = abs(nearest_rest(left, column.modulus)).bit_length() + COST * at
                if at > 0 and (best is None or size < least):
                    least = size
                    best = (nearest_rest(left, column.modulus), more)
            if at < depth:
                ways = column.farther(ways)
        if best is not None:
            self.note(column.a, best[0], place, plan + best[1] + [("bring", best[0])])

    def look_around(self, place, reach):
        """Look at the columns that turns make of the column at a place."""
        a, f, _, _ = self.found[place]
        depth = 2
        if abs(a) > CLOSE:
            depth = 1
            reach = 3 * reach
        # With f of the other sign turns lead to other columns.
        for g in (f, f - a if (f > 0) == (a > 0) else f + a):
            for t in range(-reach, reach + 1):
                turned = a + t * self.modulus * g
                if self.plan is None and turned == 1:
                    self.plan = self.way_to(place) + [("bring", g), ("turn", t)]
                if self.plan is None:
                    column = Column(self.modulus, turned, g, MOST_DIVISORS)
                    self.look(column, place, [("bring", g), ("turn", t)], depth)


def plan_of(N, a, f):
    """Return a plan for a column (a, N * f), or None if none is found within the bounds."""
    for reach in REACHES:
        search = Search(N, a, f)
        many = 300 + 2 * abs(a).bit_length()
        while search.plan is None and len(search.queue) > 0 and many > 0:
            _, place = heappop(search.queue)
            search.look_around(place, reach)
            many = many - 1
        if search.plan is not None:
            return search.plan
    return None
