"""[4.1] to [4.5], and what [6.5] says of two rows."""

import time
import unittest

from rowsteps.errors import BadNumber, BadPlace, BadTable, NotAlike
from rowsteps.small import paper_of_two, representatives, tie
from tests.devicesamples import plain_all, plain_rest
from tests.papersamples import Mixer, assert_paper, is_one_modulo, opposite, plain_conjugate, plain_inverse
from tests.samples import BIG, TABLES, WRONG_TABLES, Awkward, plain_identity, plain_step, plain_times
from tests.turningsamples import S, T, long_table, mixed_letters, table_of_letters, wide_table

ORDERS = (2, 3, 4, 5)
MANY = {2: 6, 3: 12, 4: 24, 5: 60}
LETTERS = {"S": S, "T": T}
ONE = plain_identity(2)
WRONG_SMALL = [1, 0, -1, -2, -5, 6, 7, 30, 31, BIG, -BIG, True, False]


def is_one_turn(N, first, second):
    return plain_rest(N, first) in (plain_rest(N, second), plain_rest(N, opposite(second)))


def plain_representatives(N):
    found = [ONE]
    for table in found:
        for letter in (S, T):
            other = plain_times(table, letter)
            if not any(is_one_turn(N, other, known) for known in found):
                found.append(other)
    return found


REPRESENTATIVES = {N: plain_representatives(N) for N in ORDERS}


def products(N):
    """Products of conjugates of powers of steps."""
    found = [ONE]
    for seed in range(30):
        mixer = Mixer(10 * seed + N)
        table = ONE
        for _ in range(1 + seed % 7):
            inner = plain_step(2, *mixer.pick([(0, 1), (1, 0)]), N * mixer.pick([1, -1, 2, 7, -30, 10 ** 29 + 7, -BIG]))
            table = plain_times(table, plain_conjugate(mixer.turner(2, mixer.below(6)), inner))
        found.append(table)
    return found


def shortest_words(N):
    """For each rest modulo N a table of two rows that has it."""
    found = {plain_rest(N, ONE): ONE}
    waiting = [ONE]
    for table in waiting:
        for letter in (T, S):
            other = plain_times(table, letter)
            if plain_rest(N, other) not in found:
                found[plain_rest(N, other)] = other
                waiting.append(other)
    return found


def words_and_back(N):
    """Words of up to thirty letters, each times the inverse of a word with the same remainders."""
    shortest = shortest_words(N)
    words = [table_of_letters(mixed_letters(seed % 31, 77 * N + seed)) for seed in range(60)]
    return [plain_times(word, plain_inverse(shortest[plain_rest(N, word)])) for word in words]


def powers(N):
    """Powers of thirty figures, of steps and of what is turned."""
    ks = [10 ** 29 + 1, -(10 ** 29) - 17, 123456789 * 10 ** 21]
    found = [plain_step(2, i, j, N * k) for i, j in ((0, 1), (1, 0)) for k in ks]
    return found + [plain_conjugate(Mixer(N).turner(2, 5), table) for table in found]


class RepresentativesTest(unittest.TestCase):
    def test_the_example_of_the_document(self):
        self.assertEqual(representatives(2), [
            ((1, 0), (0, 1)), ((0, -1), (1, 0)), ((1, 1), (0, 1)), ((0, -1), (1, 1)), ((1, -1), (1, 0)), ((-1, 0), (1, -1)),
        ])

    def test_each_number(self):
        for N in ORDERS:
            found = representatives(N)
            self.assertIs(type(found), list)
            self.assertEqual(found, REPRESENTATIVES[N])
            self.assertEqual(len(found), MANY[N])

    def test_each_table_belongs_to_the_turn_of_just_one(self):
        for N in ORDERS:
            found = representatives(N)
            for rest in plain_all(2, N):
                self.assertEqual(sum(is_one_turn(N, rest, table) for table in found), 1)

    def test_the_list_may_be_changed(self):
        for N in ORDERS:
            representatives(N).clear()
            found = representatives(N)
            found[0] = None
            self.assertEqual(representatives(N), REPRESENTATIVES[N])
            self.assertEqual(tie(N, 0, "S")[0], 1)

    def test_wrong_numbers(self):
        for N in WRONG_SMALL:
            with self.subTest(N=N), self.assertRaises(BadNumber):
                representatives(N)


class TieTest(unittest.TestCase):
    def test_each_place_and_letter(self):
        for N in ORDERS:
            tables = REPRESENTATIVES[N]
            for place, table in enumerate(tables):
                for letter, x in LETTERS.items():
                    with self.subTest(N=N, place=place, letter=letter):
                        found = tie(N, place, letter)
                        self.assertIs(type(found), tuple)
                        target, paper = found
                        self.assertIs(type(target), int)
                        led = plain_times(table, x)
                        self.assertEqual([at for at, other in enumerate(tables) if is_one_turn(N, led, other)], [target])
                        expected = plain_times(led, plain_inverse(tables[target]))
                        if N > 2 and not is_one_modulo(N, expected):
                            expected = opposite(expected)
                        assert_paper(self, N, expected, paper)
                        self.assertLessEqual(len(paper), 12)

    def test_wrong_places(self):
        for N in ORDERS:
            for place in (-1, -2, MANY[N], MANY[N] + 1, BIG, -BIG, True, False):
                for letter in ("S", "T", "x"):
                    with self.subTest(N=N, place=place), self.assertRaises(BadPlace):
                        tie(N, place, letter)

    def test_wrong_letters(self):
        for letter in ("", "s", "t", "ST", "TS", "U", " S", "S\n", "1", None, 0, 1, True, b"S", ["S"], ("S",), {}, Awkward()):
            for N in ORDERS:
                for place in (0, MANY[N] - 1, MANY[N]):
                    with self.subTest(N=N), self.assertRaises(BadPlace):
                        tie(N, place, letter)

    def test_wrong_numbers_come_first(self):
        for N in WRONG_SMALL:
            for place, letter in ((0, "S"), (-1, "T"), (0, "x"), (BIG, None)):
                with self.subTest(N=N), self.assertRaises(BadNumber):
                    tie(N, place, letter)


class PaperOfTwoTest(unittest.TestCase):
    def assert_papers(self, N, tables):
        for table in tables:
            with self.subTest(N=N, table=table):
                self.assertTrue(is_one_modulo(N, table))
                assert_paper(self, N, table, paper_of_two(N, table))

    def test_the_example_of_the_document(self):
        with self.assertRaises(NotAlike):
            paper_of_two(3, ((4, -9), (1, -2)))
        self.assert_papers(3, [((4, 9), (3, 7))])

    def test_products_of_conjugates(self):
        for N in ORDERS:
            self.assert_papers(N, products(N))

    def test_words_with_the_same_remainders(self):
        for N in ORDERS:
            self.assert_papers(N, words_and_back(N))

    def test_powers(self):
        for N in ORDERS:
            self.assert_papers(N, powers(N))
            self.assert_papers(N, [plain_step(2, 0, 1, N * k) for k in (1, -1, 2, N, -N, 0)])

    def test_opposites(self):
        self.assert_papers(2, [opposite(table) for table in products(2) + words_and_back(2)[:20] + powers(2)])
        for N in (3, 4, 5):
            for table in products(N)[:8]:
                with self.assertRaises(NotAlike):
                    paper_of_two(N, opposite(table))

    def test_all_small_tables(self):
        for N in ORDERS:
            for table in TABLES[2]:
                if is_one_modulo(N, table):
                    self.assert_papers(N, [table])
                else:
                    with self.assertRaises(NotAlike):
                        paper_of_two(N, table)

    def test_errors_in_their_order(self):
        for N in WRONG_SMALL:
            for table in (ONE, None, T, plain_identity(3)):
                with self.subTest(N=N), self.assertRaises(BadNumber):
                    paper_of_two(N, table)
        for N in ORDERS:
            for table in WRONG_TABLES + [plain_identity(3), plain_step(3, 0, 1, 5), plain_step(3, 0, 1, 60)]:
                with self.assertRaises(BadTable):
                    paper_of_two(N, table)


class SpeedTest(unittest.TestCase):
    def test_the_largest_inputs(self):
        start = time.process_time()
        for N in ORDERS:
            representatives(N)
            for letter in "ST":
                tie(N, MANY[N] - 1, letter)
            for table in (long_table(60), wide_table(60)):
                other = shortest_words(N)[plain_rest(N, table)]
                assert_paper(self, N, plain_times(table, plain_inverse(other)),
                             paper_of_two(N, plain_times(table, plain_inverse(other))))
        self.assertLess(time.process_time() - start, 3)


if __name__ == "__main__":
    unittest.main()
