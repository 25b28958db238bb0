"""[1.4], and what [1.9] says of products of steps."""

import copy
import unittest

from rowsteps.errors import BadNumber, BadPlace, BadTable
from rowsteps.words import table_of, word_of
from tests.samples import (
    BIG, FEW, MIXED, TABLES, WRONG_SIZES, WRONG_TABLES,
    all_places, mixed_word, plain_identity, plain_product, plain_step, wrong_pairs,
)


def long_table():
    """A table whose columns take as many divisions as numbers of their size can take."""
    table = ((1, 1), (1, 2))
    for _ in range(300):
        (a, b), (c, d) = table
        table = ((a + c, b + d), (a + 2 * c, b + 2 * d))
    return table


class WordOfTest(unittest.TestCase):
    def assert_word(self, table):
        word = word_of(table)
        n = len(table)
        self.assertIs(type(word), list)
        for triple in word:
            self.assertIs(type(triple), tuple)
            self.assertEqual([type(item) for item in triple], [int, int, int])
            self.assertIn(triple[:2], all_places(n))
            self.assertNotEqual(triple[2], 0)
        self.assertEqual(plain_product(n, word), table)

    def test_words_multiplied_out_again(self):
        for n in (2, 3):
            for table in TABLES[n]:
                self.assert_word(table)

    def test_the_identity(self):
        self.assert_word(plain_identity(2))
        self.assert_word(plain_identity(3))

    def test_opposites_and_exchanges(self):
        self.assert_word(((-1, 0), (0, -1)))
        self.assert_word(((0, 1), (-1, 0)))
        self.assert_word(((0, -1), (1, 0)))
        self.assert_word(((-1, BIG), (0, -1)))
        self.assert_word(((-1, 0, 0), (0, -1, 0), (0, 0, 1)))
        self.assert_word(((1, 0, 0), (0, -1, 0), (0, 0, -1)))
        self.assert_word(((0, 1, 0), (0, 0, 1), (1, 0, 0)))
        self.assert_word(((0, 0, -1), (0, -1, 0), (-1, 0, 0)))

    def test_steps(self):
        for n in (2, 3):
            for i, j in all_places(n):
                for k in (1, -1, BIG, -BIG, 10 ** 900):
                    self.assert_word(plain_step(n, i, j, k))

    def test_a_long_way(self):
        self.assert_word(long_table())
        (a, b), (c, d) = long_table()
        self.assert_word(((-a, -b), (-c, -d)))
        self.assert_word(((1, 0, 0), (0, a, b), (0, c, d)))
        self.assert_word(((a, 0, b), (BIG, 1, -BIG), (c, 0, d)))

    def test_a_returned_list_may_be_changed(self):
        for n in (2, 3):
            for table in FEW[n]:
                word_of(table).append((0, 1, 5))
                word_of(table).clear()
                word_of(table).reverse()
                self.assert_word(table)

    def test_an_earlier_list_is_left_as_it_was(self):
        for n in (2, 3):
            first = word_of(FEW[n][-1])
            before = list(first)
            for table in FEW[n]:
                self.assertIsNot(word_of(table), first)
            word_of(FEW[n][-1]).clear()
            self.assertEqual(first, before)

    def test_no_table(self):
        for at, value in enumerate(WRONG_TABLES):
            before = copy.deepcopy(value) if isinstance(value, (list, dict)) else None
            with self.subTest(at=at), self.assertRaises(BadTable):
                word_of(value)
            if before is not None:
                self.assertEqual(value, before)


class TableOfTest(unittest.TestCase):
    def test_the_example_of_the_document(self):
        self.assertEqual(table_of(2, [(0, 1, 1), (1, 0, -1), (0, 1, 1)]), ((0, 1), (-1, 0)))
        self.assertEqual(table_of(2, [(0, 1, 3)]), ((1, 3), (0, 1)))

    def test_the_empty_list(self):
        self.assertEqual(table_of(2, []), ((1, 0), (0, 1)))
        self.assertEqual(table_of(3, []), ((1, 0, 0), (0, 1, 0), (0, 0, 1)))

    def test_the_order_of_the_steps(self):
        self.assertEqual(table_of(2, [(0, 1, 2), (1, 0, 3)]), ((7, 2), (3, 1)))
        self.assertEqual(table_of(2, [(1, 0, 3), (0, 1, 2)]), ((1, 2), (3, 7)))
        self.assertEqual(table_of(3, [(0, 1, 2), (1, 2, 3)]), ((1, 2, 6), (0, 1, 3), (0, 0, 1)))
        self.assertEqual(table_of(3, [(1, 2, 3), (0, 1, 2)]), ((1, 2, 0), (0, 1, 3), (0, 0, 1)))

    def test_single_steps(self):
        for n in (2, 3):
            for i, j in all_places(n):
                for k in (0, 1, -1, 4, BIG, -BIG):
                    self.assertEqual(table_of(n, [(i, j, k)]), plain_step(n, i, j, k))

    def test_no_times(self):
        for n in (2, 3):
            for i, j in all_places(n):
                self.assertEqual(table_of(n, [(i, j, 0)]), plain_identity(n))
                self.assertEqual(table_of(n, [(i, j, 0), (0, 1, 5), (j, i, 0)]), plain_step(n, 0, 1, 5))

    def test_mixed_words(self):
        for n in (2, 3):
            for seed in range(40):
                for bound in (1, 3, 10 ** 25):
                    word = mixed_word(n, seed, seed, bound)
                    found = table_of(n, word)
                    self.assertEqual(found, plain_product(n, word))
                    self.assertIs(type(found), tuple)
                    self.assertEqual([type(row) for row in found], [tuple] * n)
                    self.assertEqual([type(item) for row in found for item in row], [int] * (n * n))

    def test_words_of_tables(self):
        for n in (2, 3):
            for table in MIXED[n]:
                self.assertEqual(table_of(n, word_of(table)), table)

    def test_the_word_is_left_as_it_was(self):
        for n in (2, 3):
            word = mixed_word(n, 30, 3, 2) + [(0, 1, 0), (0, 1, 4), (0, 1, -4)]
            before = list(word)
            first = table_of(n, word)
            self.assertEqual(word, before)
            self.assertEqual(table_of(n, word), first)
            word.append((1, 0, BIG))
            self.assertEqual(table_of(n, before), first)
            with self.assertRaises(BadPlace):
                table_of(n, word + [(0, 0, 1)])
            self.assertEqual(word, before + [(1, 0, BIG)])

    def test_wrong_numbers_of_rows(self):
        for n in WRONG_SIZES:
            for word in ([], [(0, 1, 1)], [(0, 1, 0)], [(0, 0, 1)], [(0, 1, 1), (5, -1, 2)]):
                with self.subTest(n=n, word=word), self.assertRaises(BadNumber):
                    table_of(n, word)

    def test_wrong_places(self):
        for n in (2, 3):
            right = mixed_word(n, 6, 1, 9)
            for i, j in wrong_pairs(n):
                for k in (1, 0, -BIG):
                    wrong = (i, j, k)
                    for word in ([wrong], right + [wrong], [wrong] + right, right + [wrong, (n, n, 1), (0, 0, 0)]):
                        with self.subTest(n=n, word=word), self.assertRaises(BadPlace):
                            table_of(n, word)

    def test_a_place_of_three_rows_is_none_of_two(self):
        for i, j in ((0, 2), (2, 0), (1, 2), (2, 1)):
            self.assertEqual(table_of(3, [(0, 1, 3), (i, j, 0)]), plain_step(3, 0, 1, 3))
            with self.assertRaises(BadPlace):
                table_of(2, [(0, 1, 3), (i, j, 0)])


if __name__ == "__main__":
    unittest.main()
