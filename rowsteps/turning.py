"""Polynomials modulo V(N), mirrors, and the turnings of tables with two rows."""

from rowsteps.errors import BadPlace
from rowsteps.modulo import is_alike
from rowsteps.tables import check_number, check_table_of, identity, is_number
from rowsteps.words import word_of

# The range of N for turnings, and the greatest k of a polynomial V(k).
LEAST = 2
MOST = 30
MOST_POLYNOMIAL = 60
# The mirrors by their places.
A = 0
B = 1
C = 2


def check_order(N):
    """Raise BadNumber if N is not from 2 to 30."""
    check_number(N, LEAST, MOST)


def v_polynomial(k):
    """Return the coefficients of V(k), the one of 1 first."""
    check_number(k, 0, MOST_POLYNOMIAL)
    now, then = [], [1]
    for _ in range(k):
        following = [0, *then]
        for at, item in enumerate(now):
            following[at] -= item
        now, then = then, following
    return tuple(now)


def lowered(modulus, items):
    """Return the rest of a polynomial, told by a list of coefficients, when it is divided by V(N)."""
    left = list(items)
    degree = len(modulus) - 1
    while len(left) > degree:
        top = left.pop()
        for at in range(degree):
            left[len(left) - degree + at] -= top * modulus[at]
    return tuple(left)


def poly_sum(p, q):
    """Return the sum of two polynomials modulo V(N)."""
    return tuple([item + other for item, other in zip(p, q)])


def opposite(p):
    """Return the opposite of a polynomial modulo V(N)."""
    return tuple([-item for item in p])


def times_x(modulus, p):
    """Return x times a polynomial modulo V(N)."""
    return lowered(modulus, [0, *p])


def product_modulo(modulus, p, q):
    """Return the product of two polynomials modulo V(N), which is `modulus`."""
    items = [0] * (len(p) + len(q) - 1)
    for at, item in enumerate(p):
        # Most polynomials of a mirror are 0 almost everywhere.
        if item != 0:
            for up, other in enumerate(q):
                items[at + up] += item * other
    return lowered(modulus, items)


def poly_product(N, p, q):
    """Return the product of two polynomials modulo V(N)."""
    check_order(N)
    return product_modulo(v_polynomial(N), p, q)


def entry(modulus, row, second, j):
    """Return the item j of the product of a row and a turning."""
    found = product_modulo(modulus, row[0], second[0][j])
    for m in (1, 2):
        found = poly_sum(found, product_modulo(modulus, row[m], second[m][j]))
    return found


def turning_product(N, first, second):
    """Return the product of two turnings."""
    check_order(N)
    modulus = v_polynomial(N)
    return tuple([tuple([entry(modulus, row, second, j) for j in range(3)]) for row in first])


def constant(N, number):
    """Return an integer as a polynomial modulo V(N)."""
    return (number,) + (0,) * (N - 2)


def unit_turning(N):
    """Return the turning with 1 at the places (i, i) and 0 elsewhere."""
    check_order(N)
    return tuple([tuple([constant(N, number) for number in row]) for row in identity(3)])


def mirrored(modulus, row, place):
    """Return the product of a row and the mirror of a place."""
    first, second, third = row
    if place == A:
        return (opposite(first), poly_sum(first, second), third)
    if place == B:
        return (poly_sum(first, second), opposite(second), poly_sum(third, times_x(modulus, second)))
    return (first, poly_sum(second, times_x(modulus, third)), opposite(third))


def mirrored_along(modulus, row, places):
    """Return the product of a row and the mirrors of a list of places, in their order."""
    for place in places:
        row = mirrored(modulus, row, place)
    return row


def product_of_mirrors(N, places):
    """Return the product of the mirrors of a list of places, in their order."""
    modulus = v_polynomial(N)
    return tuple([mirrored_along(modulus, row, places) for row in unit_turning(N)])


def mirror(N, place):
    """Return the mirror a, b or c, for the place 0, 1 or 2."""
    check_order(N)
    if not is_number(place) or place not in (A, B, C):
        raise BadPlace("the place of a mirror is not 0, 1 or 2")
    return product_of_mirrors(N, [place])


def turns(N, k):
    """Return the places of the mirrors of a power of T."""
    # T has the turning c * b, whose N-th power changes nothing and whose inverse is b * c: so one way is short.
    k = k % N
    return [C, B] * k if 2 * k <= N else [B, C] * (N - k)


def places_of(N, table):
    """Return a list of places whose mirrors have the turning of a table as their product."""
    places = []
    for i, _, k in word_of(table):
        if i == 0:
            places.extend(turns(N, k))
        else:
            # This step is S * T ** -k * S ** -1, and the turning a * c of S is its own inverse.
            places.extend([A, C] + turns(N, -k) + [A, C])
    return places


def turned(N, table):
    """Return the turning of a table with two rows."""
    check_order(N)
    check_table_of(2, table)
    return product_of_mirrors(N, places_of(N, table))


def is_made(N, table):
    """Return whether a table with two rows is a product of conjugates of powers of T ** N."""
    check_order(N)
    check_table_of(2, table)
    return is_alike(N, table, identity(2)) and turned(N, table) == unit_turning(N)
