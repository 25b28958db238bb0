"""[5.1] to [5.7], and what [6.5] says of three rows."""

import time
import unittest
from math import gcd
from unittest import mock

from rowsteps.errors import BadNumber, BadTable, NotAlike, TooLong
from rowsteps.modulo import lifted
from rowsteps.three import paper_of_three
from rowsteps.turning import is_made
from tests.devicesamples import plain_rest
from tests.papersamples import Mixer, assert_paper, is_one_modulo, opposite, plain_inverse
from tests.samples import BIG, TABLES, WRONG_TABLES, plain_identity, plain_step, plain_times
from tests.threesamples import (
    ONE, TWENTY, conjugates, divisors, placed_everywhere, plain_bordered, told_columns, told_tables, with_column,
    word_and_lift,
)

ORDERS = range(2, 31)
LARGE = range(6, 31)
WRONG_ORDERS = [1, 0, -1, -2, -30, 31, 32, 60, BIG, -BIG, True, False]


class PapersTest(unittest.TestCase):
    def assert_papers(self, N, tables):
        for table in tables:
            with self.subTest(N=N, table=table):
                self.assertTrue(is_one_modulo(N, table))
                assert_paper(self, N, table, paper_of_three(N, table))


class PaperOfThreeTest(PapersTest):
    def test_the_example_of_the_document(self):
        table = ((-13, 56), (-49, 211))
        self.assertFalse(is_made(7, table))
        self.assert_papers(7, placed_everywhere(table))

    def test_the_identity_and_steps(self):
        for N in ORDERS:
            self.assert_papers(N, [ONE])
            for i, j in ((0, 1), (2, 0), (1, 2), (2, 1)):
                self.assert_papers(N, [plain_step(3, i, j, N * k) for k in (1, -3, BIG)])

    def test_products_of_conjugates(self):
        for N in ORDERS:
            self.assert_papers(N, [conjugates(N, seed, 1 + seed % 8, 5) for seed in range(16)])

    def test_products_of_great_powers(self):
        for N in (2, 3, 4, 5, 6, 7, 9, 12, 30):
            for many in (1, 2, 3, 5, 8):
                self.assert_papers(N, [conjugates(N, 50 + many, many, 3, TWENTY)])

    def test_words_with_the_same_remainders(self):
        for N in ORDERS:
            self.assert_papers(N, [word_and_lift(N, seed, lifted) for seed in range(3)])

    def test_bordered_tables(self):
        for N in ORDERS:
            mixer = Mixer(N)
            for figures in (2, 4, 9, 20) if N % 6 == 0 else (2, 5):
                a, c = 1, 1
                while gcd(a, c) != 1 or abs(a) == 1:
                    a = 1 + N * (mixer.below(10 ** figures) - 10 ** figures // 2)
                    c = N * (mixer.below(10 ** figures) - 10 ** figures // 2)
                self.assert_papers(N, placed_everywhere(with_column(N, a, c))[::figures % 3 + 1])

    def test_all_small_tables(self):
        for N in ORDERS:
            for table in TABLES[3]:
                if is_one_modulo(N, table):
                    self.assert_papers(N, [table])
        for N in (2, 6, 30):
            for table in TABLES[3][::5]:
                if not is_one_modulo(N, table):
                    with self.assertRaises(NotAlike):
                        paper_of_three(N, table)

    def test_tables_that_are_not_made_smaller_first(self):
        """What is known of the first column is enough, however the table is made smaller before."""
        with mock.patch("rowsteps.three.peel", lambda N, table: ([], table, [])):
            for N in ORDERS:
                self.assert_papers(N, [table for table in TABLES[3] if is_one_modulo(N, table)])
                self.assert_papers(N, [conjugates(N, 70 + seed, 1 + seed, 4) for seed in range(3)])
            for second in (plain_step(3, 1, 2, 2), plain_step(3, 2, 1, -4), conjugates(2, 1, 2, 2)):
                for k in (0, 2, -6):
                    first = ((-1, 0, 0), (0, -1, 0), (0, 0, 1))
                    self.assert_papers(2, [plain_times(plain_times(first, second), plain_step(3, 0, 2, k))])

    def test_powers_of_one_table(self):
        for N in (6, 7, 12, 30):
            table = plain_bordered(with_column(N, 1 + 4 * N, 2 * N))
            power = table
            for _ in range(6):
                power = plain_times(power, conjugates(N, 3, 1, 2))
                self.assert_papers(N, [power, plain_inverse(power)])
                power = plain_times(power, table)

    def test_what_is_returned_says_the_same_again(self):
        table = conjugates(7, 5, 4, 4)
        self.assertEqual(paper_of_three(7, table), paper_of_three(7, table))


class NeverTooLongTest(PapersTest):
    def test_columns_of_the_promised_kind(self):
        for N in LARGE:
            self.assert_papers(N, [plain_bordered(table) for table in told_tables(N, 1, 40)])

    def test_they_need_no_luck(self):
        """No plan but the promised one is allowed here."""
        with mock.patch("rowsteps.three.plan_of", return_value=None):
            for N in LARGE:
                self.assert_papers(N, [plain_bordered(table) for table in told_tables(N, 2, 60)])

    def test_every_product_of_three(self):
        with mock.patch("rowsteps.three.plan_of", return_value=None):
            for N, e in ((6, 12), (6, -30), (7, 24), (12, -18), (30, 36), (30, -60), (29, 97)):
                a = 1 + N * e
                parts = [d for d in divisors(e) if d > 1]
                parts += [pow(d, -1, abs(a)) for d in parts]
                products = {x * y * z % abs(a) for x in [1, -1] for y in parts for z in parts}
                products = {x * y % abs(a) for x in products for y in parts}
                for f in sorted(products)[::1 + len(products) // 60]:
                    self.assert_papers(N, [plain_bordered(with_column(N, a, N * f))])

    def test_the_greatest_columns(self):
        with mock.patch("rowsteps.three.plan_of", return_value=None):
            for N in LARGE:
                for e in (9999 // N, -(10000 // N), 9999 // N - 1, 1 - 10000 // N):
                    a = 1 + N * e
                    parts = divisors(e)
                    for f in (parts[-1], -parts[-1], parts[len(parts) // 2] ** 3, pow(parts[-1], -3, abs(a))):
                        self.assert_papers(N, [plain_bordered(with_column(N, a, N * f))])

    def test_a_is_one(self):
        for N in LARGE:
            for c in (0, N, -N, 17 * N, BIG * N):
                for b in (0, N, -BIG * N):
                    self.assert_papers(N, [plain_bordered(((1, b), (c, 1 + b * c)))])

    def test_too_long(self):
        """Where no plan is found, this error says so, and no other one."""
        with mock.patch("rowsteps.three.plan_of", return_value=None):
            with self.assertRaises(TooLong):
                paper_of_three(30, plain_bordered(with_column(30, 1 + 30 * 10 ** 9, 30 * (10 ** 9 + 7))))
            for N in (2, 3, 4, 5):
                self.assert_papers(N, [plain_bordered(with_column(N, 1 + N * 10 ** 9, N * (10 ** 9 + 7)))])


class ErrorsTest(unittest.TestCase):
    def test_wrong_numbers_come_first(self):
        for N in WRONG_ORDERS:
            for table in (ONE, None, plain_identity(2), plain_step(3, 0, 1, 1)):
                with self.subTest(N=N), self.assertRaises(BadNumber):
                    paper_of_three(N, table)

    def test_wrong_tables(self):
        for N in (2, 5, 6, 30):
            for table in WRONG_TABLES + [plain_identity(2), plain_step(2, 0, 1, 60), plain_step(2, 0, 1, 1)]:
                with self.assertRaises(BadTable):
                    paper_of_three(N, table)

    def test_not_alike(self):
        for N in ORDERS:
            one = conjugates(N, 1, 3, 3)
            for other in (plain_step(3, 0, 1, 1), plain_step(3, 2, 1, N - 1), plain_step(3, 1, 2, N * BIG + 1)):
                for table in (other, plain_times(one, other)):
                    self.assertNotEqual(plain_rest(N, table), ONE)
                    with self.assertRaises(NotAlike):
                        paper_of_three(N, table)
            turned = plain_bordered(opposite(plain_identity(2)))
            if N > 2:
                with self.assertRaises(NotAlike):
                    paper_of_three(N, turned)
            else:
                assert_paper(self, 2, turned, paper_of_three(2, turned))


class SpeedTest(unittest.TestCase):
    def test_each_answer_comes_at_once(self):
        tables = [(30, conjugates(30, 90, 8, 6)), (29, conjugates(29, 91, 8, 6)), (24, conjugates(24, 92, 8, 6))]
        tables += [(30, conjugates(30, 93, 8, 2, TWENTY)), (5, conjugates(5, 94, 8, 6, TWENTY))]
        tables += [(6, conjugates(6, 95, 8, 6, TWENTY)), (30, plain_bordered(with_column(30, *told_columns(30, 4, 1)[0])))]
        for N, table in tables:
            start = time.process_time()
            paper_of_three(N, table)
            self.assertLess(time.process_time() - start, 1.5)


if __name__ == "__main__":
    unittest.main()
