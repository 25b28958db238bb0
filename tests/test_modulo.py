"""[1.5], [1.6], [1.7], [1.8], and what [1.9] says of `count` and `all_modulo`."""

import copy
import time
import unittest
from fractions import Fraction
from itertools import product

from rowsteps.errors import BadNumber, BadTable
from rowsteps.modulo import all_modulo, count, is_alike, lifted, rest, word_modulo
from rowsteps.tables import is_table
from tests.devicesamples import plain_all, plain_rest
from tests.samples import (
    BIG, FEW, LARGE, MIXED, SMALL, TABLES, WRONG_DETERMINANTS, WRONG_ITEMS, WRONG_KINDS, WRONG_LENGTHS, WRONG_LISTS,
    WRONG_SIZES, WRONG_TABLES, all_places, mixed_word, plain_determinant, plain_identity, plain_product, plain_step,
    plain_times, squares, with_item,
)

WRONG_NUMBERS = [0, -1, -2, -60, 61, 62, 120, BIG, -BIG, True, False]
MOST_STEPS = {2: 4, 3: 11}
# Any two items of its first column have a common divisor with 30.
HARD = ((6, -3, -2), (10, -2, 1), (15, -2, 3))
# Values that are no square for any N, not even for 1.
NO_SQUARES = WRONG_KINDS + WRONG_LISTS + WRONG_LENGTHS + [
    with_item(plain_identity(2), 0, 0, True), with_item(plain_identity(2), 0, 1, False),
    with_item(plain_identity(3), 2, 2, True), with_item(plain_identity(3), 1, 2, False),
    with_item(plain_identity(2), 1, 1, 1.0), with_item(plain_identity(3), 0, 0, "1"),
]


def moved(N, square, seed):
    """A square with the same remainders and other items."""
    return tuple(
        tuple(item + N * ((seed + 7 * i + 3 * j) % 5 - 2) * BIG for j, item in enumerate(row))
        for i, row in enumerate(square)
    )


class RestTest(unittest.TestCase):
    def test_told(self):
        self.assertEqual(rest(7, ((-13, 56), (-49, 211))), ((1, 0), (0, 1)))
        self.assertEqual(rest(5, ((-13, 56), (-49, 211))), ((2, 1), (1, 1)))
        self.assertEqual(rest(60, ((1, -1, 0), (0, 1, 61), (0, 0, 1))), ((1, 59, 0), (0, 1, 1), (0, 0, 1)))

    def test_all_items(self):
        for n in (2, 3):
            for table in FEW[n]:
                for N in range(1, 61):
                    found = rest(N, table)
                    self.assertEqual(found, tuple(tuple(item % N for item in row) for row in table))
                    self.assertEqual([type(row) for row in found], [tuple] * n)
                    self.assertEqual([type(item) for row in found for item in row], [int] * (n * n))

    def test_one_leaves_nothing(self):
        for table in LARGE[2]:
            self.assertEqual(rest(1, table), ((0, 0), (0, 0)))
        for table in LARGE[3]:
            self.assertEqual(rest(1, table), ((0, 0, 0), (0, 0, 0), (0, 0, 0)))

    def test_no_table(self):
        for N in (1, 2, 60):
            for at, value in enumerate(WRONG_TABLES):
                with self.subTest(N=N, at=at), self.assertRaises(BadTable):
                    rest(N, value)

    def test_a_square_that_is_no_table(self):
        with self.assertRaises(BadTable):
            rest(3, ((4, 0), (0, 1)))

    def test_wrong_numbers_come_ahead_of_wrong_tables(self):
        for N in WRONG_NUMBERS:
            for value in (plain_identity(2), plain_identity(3), None, ((2, 0), (0, 1)), [[1, 0], [0, 1]]):
                with self.subTest(N=N, value=value), self.assertRaises(BadNumber):
                    rest(N, value)


class AlikeTest(unittest.TestCase):
    def test_against_the_remainders(self):
        for n in (2, 3):
            few = FEW[n][::9] + [plain_step(n, 0, 1, k) for k in (0, 12, 60, -60, BIG)]
            for first, second in product(few, repeat=2):
                for N in (1, 2, 3, 5, 12, 59, 60):
                    self.assertIs(is_alike(N, first, second), plain_rest(N, first) == plain_rest(N, second))

    def test_one_item_differs(self):
        for n in (2, 3):
            for i, j in all_places(n):
                for k in range(-13, 14):
                    table = plain_times(FEW[n][-1], plain_step(n, i, j, k))
                    for N in (1, 2, 5, 6, 7, 13):
                        self.assertIs(is_alike(N, FEW[n][-1], table), k % N == 0)

    def test_ones_modulo(self):
        self.assertIs(is_alike(7, ((-13, 56), (-49, 211)), ((1, 0), (0, 1))), True)
        self.assertIs(is_alike(2, ((-13, 56), (-49, 211)), ((1, 0), (0, 1))), False)
        self.assertIs(is_alike(2, ((-1, 0), (0, -1)), ((1, 0), (0, 1))), True)
        self.assertIs(is_alike(3, ((-1, 0), (0, -1)), ((1, 0), (0, 1))), False)

    def test_unlike_numbers_of_rows(self):
        for N in (1, 2, 60):
            with self.assertRaises(BadTable):
                is_alike(N, plain_identity(2), plain_identity(3))
            with self.assertRaises(BadTable):
                is_alike(N, plain_identity(3), plain_identity(2))

    def test_no_table(self):
        for at, value in enumerate(WRONG_TABLES):
            for first, second in ((value, plain_identity(2)), (plain_identity(2), value),
                                  (value, plain_identity(3)), (plain_identity(3), value), (value, value)):
                with self.subTest(at=at), self.assertRaises(BadTable):
                    is_alike(5, first, second)

    def test_wrong_numbers_come_first(self):
        for N in WRONG_NUMBERS:
            for first, second in ((plain_identity(2), plain_identity(2)), (plain_identity(2), plain_identity(3)),
                                  (None, None), (plain_identity(3), [])):
                with self.subTest(N=N), self.assertRaises(BadNumber):
                    is_alike(N, first, second)


class SquareTest(unittest.TestCase):
    def assert_made(self, N, square):
        word = word_modulo(N, square)
        n = len(square)
        self.assertIs(type(word), list)
        self.assertLessEqual(len(word), MOST_STEPS[n])
        for triple in word:
            self.assertIs(type(triple), tuple)
            self.assertEqual([type(item) for item in triple], [int, int, int])
            self.assertIn(triple[:2], all_places(n))
            self.assertTrue(1 <= triple[2] <= N - 1)
        self.assertEqual(plain_rest(N, plain_product(n, word)), plain_rest(N, square))
        table = lifted(N, square)
        self.assertIs(is_table(table), True)
        self.assertEqual(len(table), n)
        self.assertEqual(plain_rest(N, table), plain_rest(N, square))

    def test_every_square_of_two_rows(self):
        for N in (1, 2, 3, 4, 5, 6, 7, 8, 9, 12):
            for square in squares(2, range(N)):
                if (plain_determinant(square) - 1) % N == 0:
                    self.assert_made(N, square)

    def test_every_square_of_three_rows_modulo_two(self):
        found = [square for square in squares(3, range(2)) if plain_determinant(square) % 2 == 1]
        self.assertEqual(len(found), 168)
        for square in found:
            self.assert_made(2, square)

    def test_many_squares_modulo_three_and_four(self):
        for N, by in ((3, 11), (4, 613)):
            rows = list(product(range(N), repeat=3))
            for square in list(product(rows, repeat=3))[::by]:
                if (plain_determinant(square) - 1) % N == 0:
                    self.assert_made(N, square)

    def test_many_for_each_number(self):
        for N in range(1, 61):
            for n in (2, 3):
                for seed in range(25):
                    table = plain_product(n, mixed_word(n, 14, 100 * N + seed, N))
                    self.assert_made(N, plain_rest(N, table))
                    self.assert_made(N, moved(N, table, seed))

    def test_tables_are_squares(self):
        for n in (2, 3):
            for table in SMALL[n][::37] + MIXED[n] + list(LARGE[n]):
                for N in (1, 2, 7, 30, 60):
                    self.assert_made(N, table)

    def test_columns_whose_last_item_is_hard_to_free(self):
        self.assert_made(60, ((4, 15), (25, 34)))
        self.assert_made(30, ((1, 0, 0), (15, 1, 0), (10, 0, 1)))
        self.assert_made(30, HARD)
        self.assert_made(30, ((15, -3, -2), (6, -1, -3), (10, -2, -1)))
        self.assert_made(60, ((0, 1, 0), (0, 0, 1), (1, 0, 0)))
        for N in (30, 42, 60):
            for table in MIXED[3]:
                turned = tuple(zip(*table))
                self.assert_made(N, turned)

    def test_other_determinants_that_leave_one(self):
        self.assert_made(5, ((2, 0), (0, 3)))
        self.assert_made(2, ((0, 1), (1, 0)))
        self.assert_made(2, ((3, 0), (0, 5)))
        self.assert_made(60, ((7, 0), (0, 43)))
        self.assert_made(59, ((-1, 0), (0, 58)))
        self.assert_made(7, ((2, 0, 0), (0, 2, 0), (0, 0, 2)))
        self.assert_made(11, ((BIG, 1, 0), (-1, 0, 0), (5, BIG, 1)))

    def test_for_one_each_square_of_integers_has_the_empty_list(self):
        for value in (((0, 0), (0, 0)), ((5, 7), (1, -3)), ((0, 0, 0), (0, 0, 0), (0, 0, 0)),
                      ((1, 2, 3), (4, 5, 6), (7, 8, -BIG))):
            self.assertEqual(word_modulo(1, value), [])
            self.assertIs(is_table(lifted(1, value)), True)
            self.assertEqual(len(lifted(1, value)), len(value))
        for value in WRONG_DETERMINANTS:
            self.assertEqual(word_modulo(1, value), [])

    def test_no_square(self):
        for function in (word_modulo, lifted):
            for N in (1, 2, 30, 60):
                for at, value in enumerate(NO_SQUARES):
                    with self.subTest(function=function, N=N, at=at), self.assertRaises(BadTable):
                        function(N, value)

    def test_items_that_are_none(self):
        for at, value in enumerate(WRONG_ITEMS):
            for N in (1, 7):
                with self.subTest(N=N, at=at), self.assertRaises(BadTable):
                    word_modulo(N, value)

    def test_other_determinants(self):
        for value in WRONG_DETERMINANTS:
            for N in range(2, 61):
                wrong = (plain_determinant(value) - 1) % N != 0
                for function in (word_modulo, lifted):
                    if wrong:
                        with self.subTest(N=N, value=value), self.assertRaises(BadTable):
                            function(N, value)
                if not wrong:
                    self.assert_made(N, value)

    def test_wrong_numbers_come_first(self):
        for function in (word_modulo, lifted):
            for N in WRONG_NUMBERS:
                for value in (plain_identity(2), plain_identity(3), None, ((2, 0), (0, 1)), [[1, 0], [0, 1]]):
                    with self.subTest(function=function, N=N), self.assertRaises(BadNumber):
                        function(N, value)

    def test_a_returned_list_may_be_changed(self):
        first = word_modulo(30, HARD)
        before = copy.deepcopy(first)
        word_modulo(30, HARD).clear()
        word_modulo(30, HARD).append((0, 1, 0))
        self.assertEqual(first, before)
        self.assert_made(30, HARD)


class CountTest(unittest.TestCase):
    def test_the_examples_of_the_document(self):
        self.assertEqual(count(2, 6), 144)
        self.assertEqual(count(3, 2), 168)

    def test_the_formula(self):
        for n in (2, 3):
            for N in range(1, 61):
                expected = Fraction(N) ** (n * n - 1)
                for p in range(2, N + 1):
                    if N % p == 0 and all(p % q for q in range(2, p)):
                        for m in range(2, n + 1):
                            expected *= 1 - Fraction(1, p ** m)
                self.assertEqual(count(n, N), expected)
                self.assertIs(type(count(n, N)), int)

    def test_against_all_results(self):
        for N in range(1, 10):
            self.assertEqual(count(2, N), len(plain_all(2, N)))
        self.assertEqual(count(3, 1), 1)
        self.assertEqual(count(3, 2), len(plain_all(3, 2)))
        self.assertEqual(count(3, 3), len(plain_all(3, 3)))

    def test_wrong_numbers(self):
        for n in WRONG_SIZES:
            for N in (1, 6, 60, 0, 61, True):
                with self.subTest(n=n, N=N), self.assertRaises(BadNumber):
                    count(n, N)
        for n in (2, 3):
            for N in WRONG_NUMBERS:
                with self.subTest(n=n, N=N), self.assertRaises(BadNumber):
                    count(n, N)


class AllModuloTest(unittest.TestCase):
    def test_the_example_of_the_document(self):
        self.assertEqual(all_modulo(2), [
            ((0, 1), (1, 0)), ((0, 1), (1, 1)), ((1, 0), (0, 1)), ((1, 0), (1, 1)), ((1, 1), (0, 1)), ((1, 1), (1, 0)),
        ])

    def test_each_number(self):
        self.assertEqual(all_modulo(1), [((0, 0), (0, 0))])
        for N in range(1, 13):
            found = all_modulo(N)
            self.assertIs(type(found), list)
            self.assertEqual(found, sorted(plain_all(2, N)))
            self.assertEqual(len(found), count(2, N))

    def test_a_returned_list_may_be_changed(self):
        for N in (1, 2, 12):
            before = all_modulo(N)
            all_modulo(N).clear()
            all_modulo(N).reverse()
            self.assertEqual(all_modulo(N), before)
            self.assertIsNot(all_modulo(N), before)

    def test_wrong_numbers(self):
        for N in WRONG_NUMBERS + [13, 14, 60]:
            with self.subTest(N=N), self.assertRaises(BadNumber):
                all_modulo(N)


class SpeedTest(unittest.TestCase):
    def test_the_largest_inputs(self):
        start = time.process_time()
        all_modulo(12)
        for n in (2, 3):
            for table in TABLES[n][-5:]:
                for N in range(1, 61):
                    lifted(N, table)
        self.assertLess(time.process_time() - start, 2)


if __name__ == "__main__":
    unittest.main()
