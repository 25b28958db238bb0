"""[3.7], [3.8], and the examples of [3.10] that speak of them."""

import time
import unittest
from math import gcd

from rowsteps.apart import apart, turned_step
from rowsteps.errors import BadNumber
from rowsteps.tables import is_table
from rowsteps.turning import is_made, turned
from tests.devicesamples import plain_rest
from tests.samples import BIG, plain_identity, plain_step, plain_times
from tests.turningsamples import WRONG_ORDERS, conjugated, made_table, plain_inverse, plain_unit

ONE = plain_identity(2)


def first_columns(N, u):
    """Some tables with the first column (u, N)."""
    for v in range(N):
        if (u * v - 1) % N == 0:
            table = ((u, (u * v - 1) // N), (N, v))
    return [plain_times(table, plain_step(2, 0, 1, k)) for k in (0, 1, -3, BIG)]


class TurnedStepTest(unittest.TestCase):
    def test_the_example_of_the_document(self):
        self.assertEqual(turned_step(7, 2), ((-13, 56), (-49, 211)))

    def test_the_formula(self):
        for N in range(2, 31):
            for u in [*range(-65, 66), BIG, -BIG, BIG + 1, 10 ** 100 + 1]:
                if gcd(u, N) == 1:
                    found = turned_step(N, u)
                    self.assertEqual(found, ((1 - u * N, u ** 3 * N), (-N * N, 1 + u * N + u * u * N * N)))
                    self.assertIs(is_table(found), True)
                    self.assertEqual(plain_rest(N, found), ONE)

    def test_a_step_turned_and_taken_back(self):
        for N in range(2, 31):
            for u in (1, -1, N + 1, 2 * N - 1, 2, 3, 5, 7, -11, 10 ** 30 + 1):
                if gcd(u, N) == 1:
                    for turner in first_columns(N, u):
                        expected = plain_times(conjugated(turner, 1), plain_step(2, 0, 1, -u * u))
                        self.assertEqual(turned_step(N, u), expected)

    def test_which_are_made(self):
        for N in range(2, 31):
            for u in [*range(-N - 1, N + 2), 2 * N - 1, 10 ** 20 * N + 1, 10 ** 20 * N - 1, 10 ** 20 * N + 2, BIG]:
                if gcd(u, N) == 1:
                    with self.subTest(N=N, u=u):
                        made = is_made(N, turned_step(N, u))
                        if N <= 5:
                            self.assertIs(made, True)
                        if N >= 7:
                            self.assertIs(made, u % N in (1, N - 1))

    def test_a_common_divisor(self):
        for N in range(2, 31):
            for u in [*range(-2 * N, 2 * N + 1), BIG * N, -BIG * N]:
                if gcd(u, N) != 1:
                    with self.subTest(N=N, u=u), self.assertRaises(BadNumber):
                        turned_step(N, u)
            with self.assertRaises(BadNumber):
                turned_step(N, 0)

    def test_true_and_false(self):
        for N in (2, 3, 7, 30):
            for u in (True, False):
                with self.assertRaises(BadNumber):
                    turned_step(N, u)

    def test_wrong_numbers(self):
        for N in WRONG_ORDERS:
            for u in (0, 1, -1, 2, 7, BIG, True):
                with self.subTest(N=N, u=u), self.assertRaises(BadNumber):
                    turned_step(N, u)

    def test_by_keywords(self):
        self.assertEqual(turned_step(N=7, u=2), apart(N=7))


class ApartTest(unittest.TestCase):
    def test_the_examples_of_the_document(self):
        self.assertEqual(apart(7), ((-13, 56), (-49, 211)))
        self.assertEqual(apart(6), ((31, 18), (12, 7)))

    def test_the_least_numbers(self):
        least = {7: 2, 8: 3, 9: 2, 10: 3, 11: 2, 12: 5, 13: 2, 14: 3, 15: 2, 16: 3, 17: 2, 18: 5, 19: 2, 20: 3, 21: 2,
                 22: 3, 23: 2, 24: 5, 25: 2, 26: 3, 27: 2, 28: 3, 29: 2, 30: 7}
        for N in range(7, 31):
            self.assertEqual(apart(N), turned_step(N, least[N]))

    def test_alike_to_the_identity_but_not_made(self):
        for N in range(6, 31):
            table = apart(N)
            with self.subTest(N=N):
                self.assertIs(is_table(table), True)
                self.assertEqual(plain_rest(N, table), ONE)
                self.assertIs(is_made(N, table), False)
                self.assertIs(is_made(N, plain_inverse(table)), False)
                self.assertNotEqual(turned(N, table), plain_unit(N))
                for seed in range(2):
                    made = made_table(N, seed, 3)
                    self.assertIs(is_made(N, plain_times(made, table)), False)
                    self.assertIs(is_made(N, plain_times(plain_times(table, made), plain_inverse(table))), True)

    def test_powers_of_them(self):
        for N in (6, 7, 12, 30):
            power, found = ONE, set()
            for _ in range(12):
                power = plain_times(power, apart(N))
                self.assertEqual(plain_rest(N, power), ONE)
                self.assertIs(is_made(N, power), False)
                found.add(turned(N, power))
            self.assertEqual(len(found), 12)

    def test_wrong_numbers(self):
        for N in WRONG_ORDERS + [2, 3, 4, 5]:
            with self.subTest(N=N), self.assertRaises(BadNumber):
                apart(N)


class SpeedTest(unittest.TestCase):
    def test_the_largest_inputs(self):
        start = time.process_time()
        for N in range(6, 31):
            apart(N)
        for u in (10 ** 33 * 30 + 7, -(10 ** 33) * 30 - 11):
            self.assertIs(is_made(30, turned_step(30, u)), False)
        self.assertLess(time.process_time() - start, 1)


if __name__ == "__main__":
    unittest.main()
