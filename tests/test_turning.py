"""[3.1] to [3.6], and the examples of [3.10] that speak of them."""

import time
import unittest

from rowsteps.errors import BadNumber, BadPlace, BadTable
from rowsteps.turning import (
    is_made, mirror, poly_product, turned, turning_product, unit_turning, v_polynomial,
)
from tests.devicesamples import plain_all, plain_rest
from tests.samples import BIG, FEW, LARGE, MIXED, SMALL, WRONG_TABLES, plain_identity, plain_step, plain_times
from tests.turningsamples import (
    LETTERS, OPPOSITE, POWERS, S, S_BACK, T, TURNINGS, WRONG_ORDERS, conjugated, constant, long_table, made_table,
    mixed_letters, plain_inverse, plain_mirror, plain_poly_product, plain_turning_product, plain_unit, plain_v,
    step_products, table_of_letters, turning_of_letters, wide_table,
)

ORDERS = range(2, 31)


def worth(p, x):
    """What a polynomial is for a number in the place of x."""
    return sum(item * x ** at for at, item in enumerate(p))


def polynomials(N):
    """Polynomials modulo V(N) with coefficients of any size."""
    size = N - 1
    seeds = (3, 7, 10 ** 12 + 39, BIG)
    found = [tuple((seed * (at + 2) ** 3) % (2 * seed - 1) - seed // 2 for at in range(size)) for seed in seeds]
    return found + [constant(N, 0), constant(N, 1), constant(N, -BIG), POWERS[N][1], (0,) * (size - 1) + (1,)]


class VTest(unittest.TestCase):
    def test_told(self):
        self.assertEqual(v_polynomial(0), ())
        self.assertEqual(v_polynomial(1), (1,))
        self.assertEqual(v_polynomial(2), (0, 1))
        self.assertEqual(v_polynomial(3), (-1, 0, 1))
        self.assertEqual(v_polynomial(4), (0, -2, 0, 1))
        self.assertEqual(v_polynomial(5), (1, 0, -3, 0, 1))

    def test_each(self):
        for k in range(61):
            found = v_polynomial(k)
            self.assertEqual(found, plain_v(k))
            self.assertIs(type(found), tuple)
            self.assertEqual(len(found), k)
            self.assertEqual([type(item) for item in found], [int] * k)

    def test_the_rule(self):
        for k in range(1, 60):
            for x in (-3, 0, 1, 2, 5, BIG):
                now, before, after = (worth(v_polynomial(at), x) for at in (k, k - 1, k + 1))
                self.assertEqual(after, x * now - before)

    def test_wrong_numbers(self):
        for k in (-1, -2, 61, 62, 100, BIG, -BIG, True, False):
            with self.subTest(k=k), self.assertRaises(BadNumber):
                v_polynomial(k)


class PolyProductTest(unittest.TestCase):
    def test_the_example_of_the_document(self):
        self.assertEqual(poly_product(3, (0, 1), (0, 1)), (1, 0))

    def test_told(self):
        self.assertEqual(poly_product(2, (6,), (-7,)), (-42,))
        self.assertEqual(poly_product(3, (2, 3), (5, -1)), (7, 13))
        self.assertEqual(poly_product(4, (0, 0, 1), (0, 0, 1)), (0, 0, 2))
        self.assertEqual(poly_product(5, (0, 0, 0, 1), (0, 1, 0, 0)), (-1, 0, 3, 0))

    def test_each_order(self):
        for N in ORDERS:
            for p in polynomials(N):
                for q in polynomials(N):
                    found = poly_product(N, p, q)
                    self.assertEqual(found, plain_poly_product(N, p, q))
                    self.assertIs(type(found), tuple)
                    self.assertEqual([type(item) for item in found], [int] * (N - 1))

    def test_the_rest_of_a_division(self):
        for N in ORDERS:
            for p in polynomials(N):
                for q in polynomials(N):
                    for x in (-2, 3, 10 ** 90):
                        left = worth(p, x) * worth(q, x) - worth(poly_product(N, p, q), x)
                        if worth(plain_v(N), x):
                            self.assertEqual(left % worth(plain_v(N), x), 0)

    def test_wrong_numbers(self):
        for N in WRONG_ORDERS:
            for p in ((), (1,), (1, 0), (0,) * 29, (0,) * 30):
                with self.subTest(N=N), self.assertRaises(BadNumber):
                    poly_product(N, p, p)


class TurningTest(unittest.TestCase):
    def assert_turning(self, N, turning):
        self.assertIs(type(turning), tuple)
        self.assertEqual([type(row) for row in turning], [tuple] * 3)
        for row in turning:
            self.assertEqual([(type(p), len(p)) for p in row], [(tuple, N - 1)] * 3)
            for p in row:
                self.assertEqual([type(item) for item in p], [int] * (N - 1))

    def test_unit_turning(self):
        for N in ORDERS:
            self.assert_turning(N, unit_turning(N))
            self.assertEqual(unit_turning(N), plain_unit(N))
        self.assertEqual(unit_turning(3), (((1, 0), (0, 0), (0, 0)), ((0, 0), (1, 0), (0, 0)), ((0, 0), (0, 0), (1, 0))))
        self.assertEqual(unit_turning(2), (((1,), (0,), (0,)), ((0,), (1,), (0,)), ((0,), (0,), (1,))))

    def test_mirrors(self):
        for N in ORDERS:
            for place in range(3):
                self.assert_turning(N, mirror(N, place))
                self.assertEqual(mirror(N, place), plain_mirror(N, place))
        self.assertEqual(mirror(2, 1), (((1,), (0,), (0,)), ((1,), (-1,), (0,)), ((0,), (0,), (1,))))
        self.assertEqual(mirror(3, 2), (((1, 0), (0, 0), (0, 0)), ((0, 0), (1, 0), (0, 0)), ((0, 0), (0, 1), (-1, 0))))

    def test_products(self):
        for N in ORDERS:
            p, q, r = polynomials(N)[:3]
            x = POWERS[N][1]
            first = ((p, q, r), (x, p, constant(N, 5)), (r, constant(N, -1), x))
            for second in (first, plain_unit(N), plain_mirror(N, 1), ((q, r, p), (p, x, q), (constant(N, 0), p, r))):
                for one, other in ((first, second), (second, first)):
                    found = turning_product(N, one, other)
                    self.assert_turning(N, found)
                    self.assertEqual(found, plain_turning_product(N, one, other))
            self.assertEqual(turning_product(N, first, unit_turning(N)), first)
            self.assertEqual(turning_product(N, unit_turning(N), first), first)

    def test_the_relations_of_the_mirrors(self):
        for N in ORDERS:
            a, b, c = (mirror(N, place) for place in range(3))
            for first, second, times in ((a, a, 1), (b, b, 1), (c, c, 1), (a, b, 3), (a, c, 2), (b, c, N), (c, b, N)):
                product = turning_product(N, first, second)
                power = unit_turning(N)
                for at in range(1, times + 1):
                    power = turning_product(N, power, product)
                    self.assertEqual(power == unit_turning(N), at == times)

    def test_wrong_numbers(self):
        for N in WRONG_ORDERS:
            with self.subTest(N=N):
                with self.assertRaises(BadNumber):
                    unit_turning(N)
                with self.assertRaises(BadNumber):
                    turning_product(N, plain_unit(2), plain_unit(2))
                for place in (0, 2, -1, 3, True, None):
                    with self.assertRaises(BadNumber):
                        mirror(N, place)

    def test_wrong_places(self):
        for N in (2, 3, 30):
            for place in (-1, 3, 4, BIG, -BIG, True, False, None, "a", 1.0, (0,), [0]):
                with self.subTest(N=N, place=place), self.assertRaises(BadPlace):
                    mirror(N, place)


class TurnedTest(unittest.TestCase):
    def test_the_example_of_the_document(self):
        self.assertEqual(turned(3, T), (
            ((1, 0), (0, 0), (0, 0)), ((1, 0), (-1, 0), (0, 1)), ((0, 1), (0, -1), (0, 0)),
        ))

    def test_single_letters(self):
        for N in ORDERS:
            for letter, table in LETTERS.items():
                self.assertEqual(turned(N, table), TURNINGS[N][letter])
            self.assertEqual(turned(N, S_BACK), TURNINGS[N]["S"])
            for table in (plain_identity(2), OPPOSITE):
                self.assertEqual(turned(N, table), plain_unit(N))

    def test_words_of_letters(self):
        for N in ORDERS:
            for seed in range(3):
                letters = mixed_letters(4 + 9 * seed, 40 * N + seed)
                table = table_of_letters(letters)
                expected = turning_of_letters(N, letters)
                with self.subTest(N=N, letters=letters):
                    self.assertEqual(turned(N, table), expected)
                    self.assertEqual(turned(N, plain_times(OPPOSITE, table)), expected)
        for N in (2, 3, 5, 6, 7, 11):
            for seed in range(20):
                letters = mixed_letters(3 * seed, seed)
                self.assertEqual(turned(N, table_of_letters(letters)), turning_of_letters(N, letters))

    def test_powers(self):
        for N in ORDERS:
            turnings = [turning_of_letters(N, "T" * k) for k in range(N)]
            self.assertEqual(len(set(turnings)), N)
            for k in [*range(-2 * N, 2 * N + 1, 1 + N // 6), N, -N, BIG, -BIG, N * BIG, 10 ** 30 + 7]:
                with self.subTest(N=N, k=k):
                    self.assertEqual(turned(N, plain_step(2, 0, 1, k)), turnings[k % N])
                    other = plain_turning_product(N, TURNINGS[N]["S"], turnings[-k % N])
                    self.assertEqual(turned(N, plain_step(2, 1, 0, k)),
                                     plain_turning_product(N, other, TURNINGS[N]["S"]))

    def test_products(self):
        few = FEW[2][::17] + step_products() + list(LARGE[2])
        for N in (2, 3, 4, 5, 6, 7, 13, 30):
            for first, second in zip(few, few[1:] + few[:1]):
                found = turned(N, plain_times(first, second))
                self.assertEqual(found, turning_product(N, turned(N, first), turned(N, second)))

    def test_inverses_and_opposites(self):
        for N in (2, 3, 6, 7, 29, 30):
            for table in step_products() + MIXED[2][:6]:
                self.assertEqual(turning_product(N, turned(N, table), turned(N, plain_inverse(table))), plain_unit(N))
                self.assertEqual(turned(N, plain_times(table, OPPOSITE)), turned(N, table))

    def test_the_number_of_turnings(self):
        for N, number in ((2, 6), (3, 12), (4, 24), (5, 60)):
            found = {turned(N, plain_identity(2))}
            new = list(found)
            while new:
                made = {plain_turning_product(N, one, TURNINGS[N][letter]) for one in new for letter in "ST"}
                new = list(made - found)
                found |= made
            self.assertEqual(len(found), number)
            self.assertEqual({turned(N, table) for table in SMALL[2]} - found, set())
            self.assertEqual({turned(N, table) for table in plain_lifts(N)}, found)

    def test_endlessly_many_turnings(self):
        for N in (6, 7, 8, 30):
            table, found = plain_identity(2), set()
            for _ in range(30):
                table = plain_times(table, table_of_letters("TTSTTTST"))
                found.add(turned(N, table))
            self.assertEqual(len(found), 30)

    def test_no_table_of_two_rows(self):
        for function in (turned, is_made):
            for N in (2, 7, 30):
                for at, value in enumerate(WRONG_TABLES):
                    with self.subTest(function=function, N=N, at=at), self.assertRaises(BadTable):
                        function(N, value)
                for table in FEW[3][::30] + [plain_identity(3)]:
                    with self.assertRaises(BadTable):
                        function(N, table)
            with self.assertRaises(BadTable):
                function(3, ((2, 0), (0, 2)))

    def test_wrong_numbers_come_first(self):
        for function in (turned, is_made):
            for N in WRONG_ORDERS:
                for value in (T, plain_identity(3), None, [], ((2, 0), (0, 2))):
                    with self.subTest(function=function, N=N), self.assertRaises(BadNumber):
                        function(N, value)


def plain_lifts(N):
    """A table for each remainder modulo N, found by going on from the identity."""
    found = {plain_rest(N, plain_identity(2)): plain_identity(2)}
    new = list(found.values())
    while new:
        made = [plain_times(table, letter) for table in new for letter in (S, T)]
        new = []
        for table in made:
            if plain_rest(N, table) not in found:
                found[plain_rest(N, table)] = table
                new.append(table)
    return list(found.values())


class MadeTest(unittest.TestCase):
    def test_against_the_remainders(self):
        for N in (2, 3, 4, 5):
            one = plain_rest(N, plain_identity(2))
            lifts = plain_lifts(N)
            self.assertEqual(len(lifts), len(plain_all(2, N)))
            ones = 0
            for table in SMALL[2] + MIXED[2] + list(LARGE[2]) + step_products() + lifts:
                expected = plain_rest(N, table) == one
                ones += expected
                self.assertIs(is_made(N, table), expected)
            self.assertGreater(ones, 1)

    def test_ones_made_of_remainders(self):
        for N in (2, 3, 4, 5):
            lifts = {plain_rest(N, table): table for table in plain_lifts(N)}
            for table in MIXED[2] + step_products():
                product = plain_times(table, plain_inverse(lifts[plain_rest(N, table)]))
                self.assertIs(is_made(N, product), True)

    def test_powers(self):
        for N in ORDERS:
            for k in (0, 1, -1, 2, 3, 5, BIG, -BIG, N, N - 1, 10 ** 25):
                for multiple in (k, k * N):
                    expected = multiple % N == 0
                    self.assertIs(is_made(N, plain_step(2, 0, 1, multiple)), expected)
                    self.assertIs(is_made(N, plain_step(2, 1, 0, multiple)), expected)
                    self.assertIs(is_made(N, conjugated(((2, 5), (1, 3)), multiple)), expected)

    def test_products_of_conjugates(self):
        for N in ORDERS:
            for seed in range(4):
                table = made_table(N, seed + 3 * N, 1 + 2 * seed)
                with self.subTest(N=N, seed=seed):
                    self.assertIs(is_made(N, table), True)
                    self.assertIs(is_made(N, plain_inverse(table)), True)
                    self.assertIs(is_made(N, plain_times(table, OPPOSITE)), N == 2)
                    for other in (T, S, ((2, 5), (1, 3)), ((-13, 56), (-49, 211)), ((31, 18), (12, 7))):
                        self.assertIs(is_made(N, plain_times(table, other)), is_made(N, other))
                        self.assertIs(is_made(N, plain_times(other, table)), is_made(N, other))

    def test_the_opposite_of_the_identity(self):
        for N in ORDERS:
            self.assertIs(is_made(N, plain_identity(2)), True)
            self.assertIs(is_made(N, OPPOSITE), N == 2)

    def test_alike_but_not_made(self):
        self.assertIs(is_made(7, ((-13, 56), (-49, 211))), False)
        self.assertIs(is_made(6, ((31, 18), (12, 7))), False)

    def test_a_unit_turning_that_is_not_the_identity_modulo(self):
        for N in range(3, 31):
            self.assertEqual(turned(N, OPPOSITE), unit_turning(N))
            self.assertIs(is_made(N, OPPOSITE), False)


class SpeedTest(unittest.TestCase):
    def test_tables_of_a_hundred_figures(self):
        for table in (long_table(100), wide_table(100)):
            for N in (6, 7, 29, 30):
                start = time.process_time()
                turned(N, table)
                is_made(N, plain_times(conjugated(table, N), conjugated(plain_inverse(table), -N)))
                self.assertLess(time.process_time() - start, 1.5)

    def test_products_of_long_turnings(self):
        first, second = turned(30, wide_table(100)), turned(30, long_table(100))
        start = time.process_time()
        turning_product(30, first, second)
        self.assertLess(time.process_time() - start, 1)


if __name__ == "__main__":
    unittest.main()
