"""[6.1] to [6.3], and what [6.5] and [6.6] say of them."""

import time
import unittest

from rowsteps.errors import BadNumber, BadPaper, BadTable
from rowsteps.papers import backwards, conjugated, judge, shortened, worth
from tests.papersamples import (
    NO_PAPERS, PAPERS, WRONG_PAPERS, WRONG_POWERS, Mixer, assert_paper, is_one_modulo, opposite, plain_conjugate,
    plain_inverse, plain_worth, spoiled,
)
from tests.samples import BIG, WRONG_SIZES, WRONG_TABLES, plain_identity, plain_times

ONE = plain_identity(2)
C = ((1, 0), (1, 1))
POWERS = (2, 3, 5, 6, 7, 30)


def plain_shortened(paper):
    pile = []
    for factor in paper:
        pile.append(factor)
        if len(pile) > 1 and pile[-2][:3] == pile[-1][:3]:
            last, before = pile.pop(), pile.pop()
            if before[3] + last[3]:
                pile.append((*last[:3], before[3] + last[3]))
    return tuple(pile)


class WorthTest(unittest.TestCase):
    def test_the_examples_of_the_document(self):
        self.assertEqual(worth(2, 2, ((C, 0, 1, -1),)), ((3, -2), (2, -1)))
        self.assertEqual(worth(2, 2, ((ONE, 0, 1, 1), (ONE, 1, 0, -1), (C, 0, 1, 1))), ((-1, 0), (0, -1)))

    def test_the_empty_paper(self):
        for N in range(2, 31):
            for n in (2, 3):
                self.assertEqual(worth(N, n, ()), plain_identity(n))

    def test_single_factors(self):
        self.assertEqual(worth(7, 2, ((ONE, 0, 1, 3),)), ((1, 21), (0, 1)))
        self.assertEqual(worth(7, 2, ((ONE, 1, 0, -1),)), ((1, 0), (-7, 1)))
        self.assertEqual(worth(30, 3, ((plain_identity(3), 2, 0, BIG),)), ((1, 0, 0), (0, 1, 0), (30 * BIG, 0, 1)))

    def test_multiplied_out(self):
        for n in (2, 3):
            for paper in PAPERS[n]:
                for N in POWERS:
                    found = worth(N, n, paper)
                    self.assertEqual(found, plain_worth(N, n, paper))
                    self.assertIs(type(found), tuple)
                    self.assertTrue(is_one_modulo(N, found))

    def test_each_power(self):
        for N in range(2, 31):
            for n in (2, 3):
                paper = Mixer(N).paper(n, 4, 4)
                self.assertEqual(worth(N, n, paper), plain_worth(N, n, paper))

    def test_the_order_of_the_factors(self):
        first, second = (ONE, 0, 1, 1), (ONE, 1, 0, 1)
        self.assertEqual(worth(2, 2, (first, second)), ((5, 2), (2, 1)))
        self.assertEqual(worth(2, 2, (second, first)), ((1, 2), (2, 5)))

    def test_wrong_papers(self):
        for n in (2, 3):
            for at, wrong in enumerate(WRONG_PAPERS[n]):
                with self.subTest(n=n, at=at), self.assertRaises(BadPaper):
                    worth(POWERS[at % 6], n, wrong)

    def test_wrong_numbers_come_first(self):
        for N in WRONG_POWERS:
            for n, value in ((2, ()), (2, None), (5, ()), (None, None)):
                with self.subTest(N=N, n=n), self.assertRaises(BadNumber):
                    worth(N, n, value)
        for n in WRONG_SIZES:
            for value in ((), None, PAPERS[2][3], WRONG_TABLES[0], [()]):
                with self.subTest(n=n), self.assertRaises(BadNumber):
                    worth(2, n, value)


class JudgeTest(unittest.TestCase):
    def test_right_papers(self):
        for n in (2, 3):
            for paper in PAPERS[n]:
                for N in POWERS:
                    self.assertIs(judge(N, plain_worth(N, n, paper), paper), True)

    def test_another_table_or_number(self):
        for n in (2, 3):
            for paper in PAPERS[n]:
                table = plain_worth(6, n, paper)
                other = plain_times(table, Mixer(3).turner(n, 3))
                self.assertIs(judge(6, other, paper), False)
                self.assertIs(judge(6, plain_identity(5 - n), paper), paper == ())
                if paper and table != plain_identity(n):
                    self.assertIs(judge(7, table, paper), plain_worth(7, n, paper) == table)
                    self.assertIs(judge(6, plain_identity(n), paper), False)
                    self.assertIs(judge(6, plain_inverse(table), paper), plain_inverse(table) == table)
        self.assertIs(judge(2, opposite(ONE), ()), False)
        self.assertIs(judge(2, ONE, ()), True)
        self.assertIs(judge(2, plain_identity(3), ()), True)

    def test_one_thing_changed(self):
        for n in (2, 3):
            for N in (2, 7):
                paper = Mixer(N).paper(n, 5, 4, (1, 2, -1))
                table = plain_worth(N, n, paper)
                self.assertIs(judge(N, table, paper), True)
                for at, (turner, i, j, k) in enumerate(paper):
                    for factor in ((turner, i, j, -k), (turner, i, j, k + 1 or 5), (turner, j, i, k)):
                        changed = paper[:at] + (factor,) + paper[at + 1:]
                        self.assertIs(judge(N, table, changed), False)
                    self.assertIs(judge(N, table, paper[:at] + paper[at + 1:]), False)
                    self.assertIs(judge(N, table, paper[:at] + (paper[at],) * 2 + paper[at + 1:]), False)
                    for wrong in list(spoiled(paper[at]))[::3]:
                        self.assertIs(judge(N, table, paper[:at] + (wrong,) + paper[at + 1:]), False)
                self.assertIs(judge(N, table, list(paper)), False)
                swapped = paper[::-1]
                self.assertIs(judge(N, table, swapped), plain_worth(N, n, swapped) == table)

    def test_values_of_any_kind(self):
        for n in (2, 3):
            for wrong in WRONG_PAPERS[n]:
                self.assertIs(judge(2, plain_identity(n), wrong), False)

    def test_errors_in_their_order(self):
        for N in WRONG_POWERS:
            for table in (ONE, None, ((1, 0), (0, 2))):
                with self.subTest(N=N), self.assertRaises(BadNumber):
                    judge(N, table, ())
        for table in WRONG_TABLES:
            for value in ((), None):
                with self.assertRaises(BadTable):
                    judge(30, table, value)


class BackwardsTest(unittest.TestCase):
    def test_the_factors(self):
        self.assertEqual(backwards(((C, 0, 1, 5), (ONE, 1, 0, -2))), ((ONE, 1, 0, 2), (C, 0, 1, -5)))
        self.assertEqual(backwards(()), ())

    def test_the_worth(self):
        for n in (2, 3):
            for paper in PAPERS[n]:
                found = backwards(paper)
                self.assertEqual(found, tuple((*factor[:3], -factor[3]) for factor in reversed(paper)))
                assert_paper(self, 6, plain_inverse(plain_worth(6, n, paper)), found)
                self.assertEqual(backwards(found), paper)

    def test_wrong_papers(self):
        for wrong in NO_PAPERS:
            with self.assertRaises(BadPaper):
                backwards(wrong)


class ConjugatedTest(unittest.TestCase):
    def test_the_factors(self):
        found = conjugated(((1, 1), (0, 1)), ((C, 0, 1, 5), (ONE, 1, 0, -2)))
        self.assertEqual(found, ((((2, 1), (1, 1)), 0, 1, 5), (((1, 1), (0, 1)), 1, 0, -2)))

    def test_the_worth(self):
        for n in (2, 3):
            for seed, paper in enumerate(PAPERS[n]):
                turner = Mixer(seed).turner(n, 1 + seed % 5, 9)
                found = conjugated(turner, paper)
                self.assertEqual(found, tuple((plain_times(turner, factor[0]), *factor[1:]) for factor in paper))
                assert_paper(self, 7, plain_conjugate(turner, plain_worth(7, n, paper)), found)
                self.assertEqual(conjugated(plain_identity(n), paper), paper)

    def test_the_empty_paper(self):
        for n in (2, 3):
            self.assertEqual(conjugated(Mixer(1).turner(n, 3), ()), ())

    def test_another_number_of_rows(self):
        for n in (2, 3):
            for paper in PAPERS[n][1:]:
                with self.assertRaises(BadPaper):
                    conjugated(plain_identity(5 - n), paper)

    def test_errors_in_their_order(self):
        for table in WRONG_TABLES:
            for value in ((), None, PAPERS[2][3]):
                with self.assertRaises(BadTable):
                    conjugated(table, value)
        for n in (2, 3):
            for wrong in WRONG_PAPERS[n]:
                with self.assertRaises(BadPaper):
                    conjugated(plain_identity(n), wrong)


class ShortenedTest(unittest.TestCase):
    def test_told(self):
        a, b = (ONE, 0, 1), (C, 0, 1)
        self.assertEqual(shortened(()), ())
        self.assertEqual(shortened(((*a, 1), (*a, 2))), ((*a, 3),))
        self.assertEqual(shortened(((*a, 1), (*a, -1))), ())
        self.assertEqual(shortened(((*a, 1), (*b, 2), (*b, -2), (*a, 4))), ((*a, 5),))
        self.assertEqual(shortened(((*a, 1), (*b, 2), (*a, 4))), ((*a, 1), (*b, 2), (*a, 4)))
        self.assertEqual(shortened(((*a, 1), (*b, 1), (*b, 1), (*a, -1))), ((*a, 1), (*b, 2), (*a, -1)))
        self.assertEqual(shortened(((*a, 1), (ONE, 1, 0, 1))), ((*a, 1), (ONE, 1, 0, 1)))

    def test_the_pile(self):
        for n in (2, 3):
            for paper in PAPERS[n]:
                found = shortened(paper)
                self.assertEqual(found, plain_shortened(paper))
                assert_paper(self, 5, plain_worth(5, n, paper), found)
                self.assertEqual(shortened(found), found)
                self.assertEqual(shortened(backwards(paper) + paper), ())

    def test_wrong_papers(self):
        for wrong in NO_PAPERS:
            with self.assertRaises(BadPaper):
                shortened(wrong)


class SpeedTest(unittest.TestCase):
    def test_long_papers(self):
        start = time.process_time()
        for n in (2, 3):
            paper = Mixer(5).paper(n, 500, 4, (1, -1, BIG))
            table = worth(30, n, paper + backwards(paper))
            self.assertEqual(table, plain_identity(n))
            self.assertIs(judge(30, table, paper + backwards(paper)), True)
            turner = Mixer(6).turner(n, 9, BIG % 1000)
            self.assertEqual(shortened(conjugated(turner, paper + backwards(paper))), ())
        self.assertLess(time.process_time() - start, 2)


if __name__ == "__main__":
    unittest.main()
