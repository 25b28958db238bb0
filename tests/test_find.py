"""[6.4], and what [6.5], [5.1] and [5.6] say of it."""

import time
import unittest
from unittest import mock

from rowsteps.apart import apart
from rowsteps.errors import BadNumber, BadTable, NotAlike, TooLong
from rowsteps.find import paper
from rowsteps.modulo import lifted
from rowsteps.turning import is_made
from tests.devicesamples import plain_rest
from tests.papersamples import Mixer, assert_paper, opposite, plain_conjugate, plain_inverse
from tests.samples import BIG, TABLES, WRONG_TABLES, plain_identity, plain_step, plain_times
from tests.threesamples import TWENTY, conjugates, plain_bordered, told_tables, with_column, word_and_lift

ORDERS = range(2, 31)
SMALL = (2, 3, 4, 5)
WRONG_ORDERS = [1, 0, -1, -2, -5, -30, 31, 32, 60, BIG, -BIG, True, False]


def conjugates_of_two(N, seed, many, ks=(1, -1, 2, -3)):
    mixer = Mixer(300 * N + seed)
    table = plain_identity(2)
    for _ in range(many):
        inner = plain_step(2, *mixer.pick([(0, 1), (1, 0)]), N * mixer.pick(ks))
        table = plain_times(table, plain_conjugate(mixer.turner(2, mixer.below(6)), inner))
    return table


class PaperTest(unittest.TestCase):
    def assert_papers(self, N, tables):
        for table in tables:
            with self.subTest(N=N, table=table):
                assert_paper(self, N, table, paper(N, table))

    def test_two_rows(self):
        for N in SMALL:
            self.assert_papers(N, [conjugates_of_two(N, seed, seed % 7) for seed in range(14)])
            self.assert_papers(N, [conjugates_of_two(N, seed, 5, TWENTY) for seed in range(4)])
        self.assert_papers(2, [opposite(conjugates_of_two(2, seed, seed)) for seed in range(6)])
        self.assert_papers(3, [((4, 9), (3, 7))])

    def test_three_rows(self):
        for N in ORDERS:
            self.assert_papers(N, [conjugates(N, 200 + seed, 1 + 2 * seed % 8, 5) for seed in range(5)])
            self.assert_papers(N, [conjugates(N, 300, 2, 3, TWENTY), word_and_lift(N, 9, lifted)])
            self.assert_papers(N, [plain_identity(3)])

    def test_never_too_long_for_the_promised_kind(self):
        with mock.patch("rowsteps.three.plan_of", return_value=None):
            for N in range(6, 31):
                self.assert_papers(N, [plain_bordered(table) for table in told_tables(N, 3, 20)])
            with self.assertRaises(TooLong):
                paper(30, plain_bordered(with_column(30, 1 + 30 * 10 ** 9, 30 * (10 ** 9 + 7))))

    def test_all_small_tables(self):
        """A table has a paper exactly if it is 1 modulo N, for N as the document lets it."""
        for n, orders in ((2, SMALL), (3, (2, 3, 6, 30))):
            for table in TABLES[n][::3]:
                for N in orders:
                    if plain_rest(N, table) == plain_identity(n):
                        self.assert_papers(N, [table])
                    else:
                        with self.assertRaises(NotAlike):
                            paper(N, table)

    def test_what_is_not_made_has_a_paper_with_a_third_row(self):
        for N in range(6, 31):
            table = apart(N)
            self.assertIs(is_made(N, table), False)
            with self.assertRaises(BadNumber):
                paper(N, table)
            self.assert_papers(N, [plain_bordered(table), plain_bordered(plain_inverse(table))])


class ErrorsTest(unittest.TestCase):
    def test_wrong_numbers_come_first(self):
        for N in WRONG_ORDERS:
            for table in (plain_identity(2), plain_identity(3), plain_step(3, 0, 1, 1), None, ((1, 0), (0, 2))):
                with self.subTest(N=N), self.assertRaises(BadNumber):
                    paper(N, table)

    def test_then_wrong_tables(self):
        for N in (2, 5, 6, 30):
            for table in WRONG_TABLES:
                with self.assertRaises(BadTable):
                    paper(N, table)

    def test_then_numbers_that_are_wrong_for_two_rows(self):
        for N in range(6, 31):
            for table in (plain_identity(2), plain_step(2, 0, 1, N), plain_step(2, 0, 1, 1), ((0, -1), (1, 0))):
                with self.subTest(N=N), self.assertRaises(BadNumber):
                    paper(N, table)

    def test_then_tables_that_are_not_alike(self):
        for N in ORDERS:
            for n in (2, 3) if N <= 5 else (3,):
                for table in (plain_step(n, 0, 1, 1), plain_step(n, 1, 0, N * BIG - 1)):
                    with self.subTest(N=N, n=n), self.assertRaises(NotAlike):
                        paper(N, table)


class SpeedTest(unittest.TestCase):
    def test_each_answer_comes_at_once(self):
        tables = [(N, conjugates(N, 400 + N, 8, 6)) for N in (6, 16, 30)] + [(24, conjugates(24, 1, 8, 3, TWENTY))]
        for N, table in tables + [(N, conjugates_of_two(N, 1, 8, TWENTY)) for N in SMALL]:
            start = time.process_time()
            paper(N, table)
            self.assertLess(time.process_time() - start, 1.5)


if __name__ == "__main__":
    unittest.main()
