"""[1.1], [1.2], [1.3] and the examples of [1.9] that speak of steps and their products."""

import copy
import unittest
from itertools import product

from rowsteps.errors import BadNumber, BadPlace, BadTable
from rowsteps.tables import bordered, identity, inverse, is_table, step, times
from tests.samples import (
    BIG, FEW, FIRST, LARGE, MIXED, SMALL, TABLES, WRONG_LISTS, WRONG_SIZES, WRONG_TABLES,
    all_places, plain_determinant, plain_identity, plain_step, plain_times, squares, wrong_pairs,
)


class TablesCase(unittest.TestCase):
    def assert_plain(self, table, n):
        """The table consists of tuples and integers and nothing else."""
        self.assertIs(type(table), tuple)
        self.assertEqual(len(table), n)
        for row in table:
            self.assertIs(type(row), tuple)
            self.assertEqual(len(row), n)
            for item in row:
                self.assertIs(type(item), int)

    def assert_all_refused(self, function):
        """The function of one table raises BadTable for all values that are none."""
        for at, value in enumerate(WRONG_TABLES):
            with self.subTest(at=at), self.assertRaises(BadTable):
                function(value)


class IsTableTest(TablesCase):
    def test_tables(self):
        for n in (2, 3):
            for table in TABLES[n]:
                self.assertIs(is_table(table), True)

    def test_every_small_square(self):
        for n, items in ((2, range(-3, 4)), (3, range(-1, 2))):
            for rows in squares(n, items):
                self.assertIs(is_table(rows), plain_determinant(rows) == 1)

    def test_three_rows_with_unlike_items(self):
        self.assertIs(is_table(((2, 3, 5), (1, 2, 7), (1, 1, -1))), True)
        self.assertIs(is_table(((2, 3, 5), (1, 2, 7), (1, 1, 1))), False)
        self.assertIs(is_table(((2, 3, 0), (1, 2, 0), (0, 0, 1))), True)
        self.assertIs(is_table(((1, 2, 3), (0, 1, 4), (5, 6, 0))), True)
        self.assertIs(is_table(((1, 2, 3), (0, 1, 4), (5, 6, 1))), False)
        self.assertIs(is_table(((5, 6, 0), (1, 2, 3), (0, 1, 4))), True)
        self.assertIs(is_table(((0, 1, 4), (1, 2, 3), (5, 6, 0))), False)

    def test_values_that_are_none(self):
        for at, value in enumerate(WRONG_TABLES):
            with self.subTest(at=at):
                self.assertIs(is_table(value), False)

    def test_one_item_changed(self):
        for n in (2, 3):
            for table in LARGE[n] + tuple(MIXED[n]):
                for i, j in product(range(n), repeat=2):
                    rows = [list(row) for row in table]
                    rows[i][j] += 1
                    changed = tuple(tuple(row) for row in rows)
                    self.assertIs(is_table(changed), plain_determinant(changed) == 1)

    def test_true_and_false_are_no_items(self):
        self.assertIs(is_table(((True, False), (False, True))), False)
        self.assertIs(is_table(((1, 0), (0, True))), False)
        self.assertIs(is_table(((1, False), (0, 1))), False)
        self.assertIs(is_table(((1, 5, False), (0, 1, 0), (0, 0, 1))), False)

    def test_the_value_is_left_as_it_was(self):
        for value in WRONG_LISTS:
            before = copy.deepcopy(value)
            is_table(value)
            self.assertEqual(value, before)


class IdentityTest(TablesCase):
    def test_both(self):
        self.assertEqual(identity(2), ((1, 0), (0, 1)))
        self.assertEqual(identity(3), ((1, 0, 0), (0, 1, 0), (0, 0, 1)))
        self.assert_plain(identity(2), 2)
        self.assert_plain(identity(3), 3)

    def test_other_numbers(self):
        for n in WRONG_SIZES:
            with self.subTest(n=n), self.assertRaises(BadNumber):
                identity(n)


class TimesTest(TablesCase):
    def test_told_products(self):
        self.assertEqual(times(((1, 2), (3, 7)), ((2, 5), (1, 3))), ((4, 11), (13, 36)))
        self.assertEqual(times(((2, 5), (1, 3)), ((1, 2), (3, 7))), ((17, 39), (10, 23)))
        first = ((1, 2, 3), (0, 1, 4), (5, 6, 0))
        second = ((1, 0, 0), (2, 1, 0), (3, -4, 1))
        self.assertEqual(times(first, second), ((14, -10, 3), (14, -15, 4), (17, 6, 0)))
        self.assertEqual(times(second, first), ((1, 2, 3), (2, 5, 10), (8, 8, -7)))

    def test_the_formula(self):
        for n in (2, 3):
            for first, second in product(FEW[n], repeat=2):
                self.assertEqual(times(first, second), plain_times(first, second))

    def test_the_identity_changes_nothing(self):
        for n in (2, 3):
            for table in FEW[n]:
                self.assertEqual(times(identity(n), table), table)
                self.assertEqual(times(table, identity(n)), table)

    def test_products_are_tables(self):
        for n in (2, 3):
            for first, second in zip(FEW[n], FEW[n][1:]):
                self.assert_plain(times(first, second), n)
                self.assertIs(is_table(times(first, second)), True)

    def test_large_items(self):
        first = ((BIG, BIG - 1), (BIG + 1, BIG))
        second = ((1, -FIRST), (0, 1))
        self.assertEqual(times(first, second), ((BIG, BIG - 1 - BIG * FIRST), (BIG + 1, BIG - (BIG + 1) * FIRST)))

    def test_no_table(self):
        for n in (2, 3):
            self.assert_all_refused(lambda value: times(value, plain_identity(n)))
            self.assert_all_refused(lambda value: times(plain_identity(n), value))
        self.assert_all_refused(lambda value: times(value, value))

    def test_unlike_numbers_of_rows(self):
        for two, three in zip(FEW[2], FEW[3]):
            with self.assertRaises(BadTable):
                times(two, three)
            with self.assertRaises(BadTable):
                times(three, two)


class InverseTest(TablesCase):
    def test_told_inverses(self):
        self.assertEqual(inverse(((2, 5), (1, 3))), ((3, -5), (-1, 2)))
        self.assertEqual(inverse(((1, 2, 3), (0, 1, 4), (5, 6, 0))), ((-24, 18, 5), (20, -15, -4), (-5, 4, 1)))
        self.assertEqual(inverse(((0, 1, 0), (0, 0, 1), (1, 0, 0))), ((0, 0, 1), (1, 0, 0), (0, 1, 0)))
        self.assertEqual(inverse(((1, BIG), (0, 1))), ((1, -BIG), (0, 1)))

    def test_the_product_is_the_identity(self):
        for n in (2, 3):
            for table in TABLES[n]:
                found = inverse(table)
                self.assert_plain(found, n)
                self.assertEqual(plain_times(table, found), plain_identity(n))
                self.assertEqual(plain_times(found, table), plain_identity(n))

    def test_no_table(self):
        self.assert_all_refused(inverse)


class BorderedTest(TablesCase):
    def test_told(self):
        self.assertEqual(bordered(((2, 5), (1, 3))), ((2, 5, 0), (1, 3, 0), (0, 0, 1)))
        self.assertEqual(bordered(identity(2)), identity(3))

    def test_all(self):
        for table in TABLES[2]:
            (a, b), (c, d) = table
            self.assertEqual(bordered(table), ((a, b, 0), (c, d, 0), (0, 0, 1)))
            self.assert_plain(bordered(table), 3)

    def test_three_rows(self):
        for table in [identity(3), bordered(((2, 5), (1, 3)))] + FEW[3]:
            with self.assertRaises(BadTable):
                bordered(table)

    def test_no_table(self):
        self.assert_all_refused(bordered)


class StepTest(TablesCase):
    def test_the_examples_of_the_document(self):
        self.assertEqual(step(2, 0, 1, 3), ((1, 3), (0, 1)))
        up = step(2, 0, 1, 1)
        self.assertEqual(times(times(up, step(2, 1, 0, -1)), up), ((0, 1), (-1, 0)))

    def test_every_pair_of_places(self):
        for n in (2, 3):
            for i, j in all_places(n):
                for k in (1, -1, 2, -7, BIG, -BIG):
                    found = step(n, i, j, k)
                    self.assertEqual(found, plain_step(n, i, j, k))
                    self.assert_plain(found, n)
                    self.assertIs(is_table(found), True)

    def test_told(self):
        self.assertEqual(step(2, 1, 0, -4), ((1, 0), (-4, 1)))
        self.assertEqual(step(3, 0, 2, 5), ((1, 0, 5), (0, 1, 0), (0, 0, 1)))
        self.assertEqual(step(3, 2, 1, BIG), ((1, 0, 0), (0, 1, 0), (0, BIG, 1)))

    def test_no_times(self):
        for n in (2, 3):
            for i, j in all_places(n):
                self.assertEqual(step(n, i, j, 0), plain_identity(n))
                self.assert_plain(step(n, i, j, 0), n)

    def test_as_the_first_factor_it_adds_rows(self):
        for n in (2, 3):
            for table, (i, j), k in product(FEW[n], all_places(n), (0, 1, -3, BIG)):
                rows = [list(row) for row in table]
                rows[i] = [item + k * other for item, other in zip(rows[i], rows[j])]
                self.assertEqual(times(step(n, i, j, k), table), tuple(tuple(row) for row in rows))

    def test_as_the_second_factor_it_adds_columns(self):
        for n in (2, 3):
            for table, (i, j), k in product(FEW[n], all_places(n), (0, 1, -3, -BIG)):
                rows = [list(row) for row in table]
                for row in rows:
                    row[j] += k * row[i]
                self.assertEqual(times(table, step(n, i, j, k)), tuple(tuple(row) for row in rows))

    def test_the_inverse_is_the_step_back(self):
        for n in (2, 3):
            for i, j in all_places(n):
                self.assertEqual(inverse(step(n, i, j, BIG)), step(n, i, j, -BIG))

    def test_wrong_numbers_of_rows(self):
        for n in WRONG_SIZES:
            with self.subTest(n=n), self.assertRaises(BadNumber):
                step(n, 0, 1, 1)

    def test_wrong_places(self):
        for n in (2, 3):
            for i, j in wrong_pairs(n):
                for k in (1, 0, -BIG):
                    with self.subTest(n=n, i=i, j=j, k=k), self.assertRaises(BadPlace):
                        step(n, i, j, k)

    def test_the_places_just_inside_and_outside(self):
        self.assertEqual(step(3, 2, 0, 1), ((1, 0, 0), (0, 1, 0), (1, 0, 1)))
        for n, i, j in ((2, 2, 0), (2, 0, 2), (3, 3, 0), (3, 0, 3), (2, -1, 0), (2, 0, -1), (3, -1, 0), (3, 0, -1)):
            with self.subTest(n=n, i=i, j=j), self.assertRaises(BadPlace):
                step(n, i, j, 1)

    def test_the_number_is_refused_ahead_of_the_places(self):
        for n in WRONG_SIZES:
            for i, j in wrong_pairs(2):
                with self.subTest(n=n, i=i, j=j), self.assertRaises(BadNumber):
                    step(n, i, j, 1)


class SamplesTest(unittest.TestCase):
    def test_there_is_enough_to_test(self):
        self.assertEqual(len(SMALL[2]), 116)
        self.assertEqual(len(SMALL[3]), 3480)
        for n in (2, 3):
            self.assertTrue(all(plain_determinant(table) == 1 for table in TABLES[n]))
            items = [item for table in TABLES[n] for row in table for item in row]
            self.assertGreater(max(items), 10 ** 100)
            self.assertLess(min(items), -10 ** 100)


if __name__ == "__main__":
    unittest.main()
