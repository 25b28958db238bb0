"""[2.9], [2.10], [2.11], and the examples of [2.13] that need no text."""

import copy
import time
import unittest
from itertools import product

from rowsteps.device import Device
from rowsteps.errors import BadNumber, BadTable, RowstepsError, TooLarge
from rowsteps.made import cosets_device, lines_device, planes_device, rows_device
from rowsteps.modulo import count
from rowsteps.parted import likeness, pieces
from rowsteps.tables import inverse
from tests.devicesamples import (
    moves_of, plain_all, plain_closure, plain_free_rows, plain_least, plain_led, plain_rest, still,
)
from tests.samples import (
    BIG, FEW, LARGE, MIXED, WRONG_SIZES, WRONG_TABLES, all_places, mixed_word, plain_identity, plain_product,
    plain_step, plain_times,
)

WRONG_NUMBERS = [1, 0, -1, -2, -60, 61, 62, BIG, -BIG, True, False]
# The numbers of states of rows and of lines (and planes), for all N with at most 200 of them.
ROWS = {
    2: {2: 3, 3: 8, 4: 12, 5: 24, 6: 24, 7: 48, 8: 48, 9: 72, 10: 72, 11: 120, 12: 96, 13: 168, 14: 144, 15: 192,
        16: 192},
    3: {2: 7, 3: 26, 4: 56, 5: 124, 6: 182},
}
LINES_OF_THREE = {2: 7, 3: 13, 4: 28, 5: 31, 6: 91, 7: 57, 8: 112, 9: 117, 11: 133, 13: 183}
A = ((0, 0, 1), (1, 0, 1), (0, 1, 0))
B = ((1, 0, 0), (0, 0, -1), (0, 1, 1))


def tables_for(n):
    return FEW[n][::7] + MIXED[n][-3:] + list(LARGE[n])


class RowsTest(unittest.TestCase):
    def test_each_number(self):
        for n in (2, 3):
            for N in range(2, 61):
                with self.subTest(n=n, N=N):
                    if N in ROWS[n]:
                        device = rows_device(n, N)
                        self.assertIs(type(device), Device)
                        self.assertEqual((device.n, device.size, device.round), (n, ROWS[n][N], N))
                    else:
                        with self.assertRaises(TooLarge):
                            rows_device(n, N)

    def test_tables_lead_rows(self):
        for n in (2, 3):
            for N in ROWS[n]:
                device = rows_device(n, N)
                rows = plain_free_rows(n, N)
                self.assertEqual(device.size, len(rows))
                for i, j in all_places(n):
                    expected = [rows.index(plain_led(N, plain_step(n, i, j, 1), row)) for row in rows]
                    self.assertEqual(device.move(i, j), tuple(expected))
                for table in tables_for(n)[::4]:
                    for state in range(0, len(rows), 9):
                        self.assertEqual(device.act(table, state), rows.index(plain_led(N, table, rows[state])))

    def test_told(self):
        self.assertEqual(moves_of(rows_device(2, 2)), {(0, 1): (2, 1, 0), (1, 0): (0, 2, 1)})
        # The rows are (0, 1), (0, 2), (1, 0), (1, 1), (1, 2), (2, 0), (2, 1), (2, 2).
        self.assertEqual(rows_device(2, 3).move(0, 1), (3, 7, 2, 6, 1, 5, 0, 4))


class LinesTest(unittest.TestCase):
    def test_the_examples_of_the_document(self):
        device = lines_device(2, 2)
        self.assertEqual((device.size, device.round), (3, 2))
        self.assertEqual(moves_of(device), {(0, 1): (2, 1, 0), (1, 0): (0, 2, 1)})
        self.assertEqual(lines_device(3, 2).size, 7)
        self.assertEqual(planes_device(3, 2).size, 7)
        self.assertIsNone(likeness(lines_device(3, 2), planes_device(3, 2)))

    def test_each_number(self):
        for function in (lines_device, planes_device):
            for n in (2, 3):
                for N in range(2, 61):
                    with self.subTest(function=function, n=n, N=N):
                        if n == 2 or N in LINES_OF_THREE:
                            device = function(n, N)
                            self.assertEqual((device.n, device.round), (n, N))
                            if n == 3:
                                self.assertEqual(device.size, LINES_OF_THREE[N])
                        else:
                            with self.assertRaises(TooLarge):
                                function(n, N)

    def test_numbers_of_lines_of_two(self):
        for N in (2, 3, 4, 5, 6, 7, 12, 16, 30, 49, 59, 60):
            least = {plain_least(N, row) for row in plain_free_rows(2, N)}
            self.assertEqual(lines_device(2, N).size, len(least))
            self.assertEqual(planes_device(2, N).size, len(least))

    def test_tables_lead_lines_and_planes(self):
        for n, N in [(2, N) for N in (2, 3, 4, 5, 6, 8, 9, 12, 25, 60)] + [(3, N) for N in (2, 3, 4, 5, 6, 8, 13)]:
            lines = sorted({plain_least(N, row) for row in plain_free_rows(n, N)})
            found, planes = lines_device(n, N), planes_device(n, N)
            for table in tables_for(n)[::6] + [plain_step(n, i, j, k) for i, j in all_places(n) for k in (1, -1)]:
                turned = tuple(zip(*inverse(table)))
                for state in range(0, len(lines), 1 + len(lines) // 30):
                    with self.subTest(n=n, N=N, state=state):
                        goal = plain_least(N, plain_led(N, table, lines[state]))
                        self.assertEqual(found.act(table, state), lines.index(goal))
                        goal = plain_least(N, plain_led(N, turned, lines[state]))
                        self.assertEqual(planes.act(table, state), lines.index(goal))

    def test_a_row_stays_in_its_plane(self):
        for N in (2, 3, 4):
            lines = sorted({plain_least(N, row) for row in plain_free_rows(3, N)})
            found, planes = lines_device(3, N), planes_device(3, N)
            for table in FEW[3][::30]:
                for line, plane in product(range(len(lines)), repeat=2):
                    there, goal = lines[found.act(table, line)], lines[planes.act(table, plane)]
                    before = sum(a * b for a, b in zip(lines[line], lines[plane])) % N
                    after = sum(a * b for a, b in zip(there, goal)) % N
                    self.assertEqual(before == 0, after == 0)


class NumbersTest(unittest.TestCase):
    def test_wrong_numbers_of_rows(self):
        for function in (rows_device, lines_device, planes_device):
            for n in WRONG_SIZES:
                for N in (2, 60, 1, True):
                    with self.subTest(function=function, n=n, N=N), self.assertRaises(BadNumber):
                        function(n, N)

    def test_wrong_moduli(self):
        for function in (rows_device, lines_device, planes_device):
            for n in (2, 3):
                for N in WRONG_NUMBERS:
                    with self.subTest(function=function, n=n, N=N), self.assertRaises(BadNumber):
                        function(n, N)

    def test_by_keywords(self):
        for function in (rows_device, lines_device, planes_device):
            self.assertEqual(moves_of(function(n=2, N=2)), moves_of(function(2, 2)))
        self.assertEqual(cosets_device(n=2, N=2, tables=[]).size, 6)


class CosetsTest(unittest.TestCase):
    def assert_cosets(self, n, N, tables):
        """Against the sets of products themselves."""
        group = plain_all(n, N)
        self.assertEqual(len(group), count(n, N))
        least_group = plain_closure(n, N, tables)
        states, left = [], set(group)
        while left:
            g = left.pop()
            states.append(frozenset(plain_rest(N, plain_times(g, h)) for h in least_group))
            left -= states[-1]
        states.sort(key=min)
        self.assertEqual(len(states), len(group) // len(least_group))
        numbers = {member: at for at, state in enumerate(states) for member in state}
        self.assertEqual(len(numbers), len(group))
        if len(states) > 200:
            with self.assertRaises(TooLarge):
                cosets_device(n, N, tables)
            return
        device = cosets_device(n, N, tables)
        self.assertIs(type(device), Device)
        self.assertEqual((device.n, device.size), (n, len(states)))
        for table in [plain_step(n, i, j, 1) for i, j in all_places(n)] + MIXED[n][:2] + list(LARGE[n])[-1:]:
            expected = []
            for state in states:
                goals = {numbers[plain_rest(N, plain_times(table, member))] for member in state}
                self.assertEqual(len(goals), 1)
                expected.extend(goals)
            self.assertEqual(device.exchange(table), tuple(expected))

    def test_the_examples_of_the_document(self):
        self.assertEqual(cosets_device(2, 2, []).size, 6)
        self.assertEqual(cosets_device(3, 2, [A, B]).size, 8)

    def test_no_tables(self):
        for N in (2, 3, 4, 5):
            self.assert_cosets(2, N, [])
        self.assert_cosets(3, 2, [])
        for n, N in ((2, 7), (2, 9), (2, 10), (2, 12), (2, 16), (3, 3)):
            with self.subTest(n=n, N=N), self.assertRaises(TooLarge):
                cosets_device(n, N, [])

    def test_the_numbers_of_states_without_tables(self):
        for N in range(2, 17):
            if count(2, N) <= 200:
                self.assertEqual(cosets_device(2, N, []).size, count(2, N))
            else:
                with self.assertRaises(TooLarge):
                    cosets_device(2, N, [])

    def test_groups_of_two_rows(self):
        up, down, minus = plain_step(2, 0, 1, 1), plain_step(2, 1, 0, 1), ((-1, 0), (0, -1))
        for N in (2, 3, 4, 5, 6, 7, 8, 9):
            self.assert_cosets(2, N, [up])
            self.assert_cosets(2, N, [down, minus])
            self.assert_cosets(2, N, [minus])
            self.assert_cosets(2, N, [((0, -1), (1, 0)), plain_step(2, 0, 1, 2)])
            self.assert_cosets(2, N, [((2, 1), (1, 1)), minus])
        self.assert_cosets(2, 6, [plain_step(2, 0, 1, 3), plain_step(2, 1, 0, 3)])
        self.assert_cosets(2, 12, [up, plain_step(2, 1, 0, 6)])

    def test_groups_of_three_rows(self):
        self.assert_cosets(3, 2, [A])
        self.assert_cosets(3, 2, [B])
        self.assert_cosets(3, 2, [A, B])
        self.assert_cosets(3, 2, [plain_step(3, 0, 1, 1)])
        self.assert_cosets(3, 2, [plain_step(3, 0, 1, 1), plain_step(3, 1, 0, 1)])
        self.assert_cosets(3, 3, [plain_step(3, i, j, 1) for i, j in ((0, 1), (1, 0), (0, 2))])
        self.assert_cosets(3, 3, [A, B])

    def test_all_of_them(self):
        for n, N in [(2, N) for N in range(2, 17)] + [(3, 2), (3, 3)]:
            device = cosets_device(n, N, [plain_step(n, i, j, 1) for i, j in all_places(n)])
            self.assertEqual(moves_of(device), moves_of(still(n, 1)))

    def test_the_steps_that_keep_a_row(self):
        for N in (2, 3, 4, 5, 8, 13, 16):
            found = cosets_device(2, N, [plain_step(2, 0, 1, 1)])
            self.assertEqual(found.size, ROWS[2][N])
            self.assertIsNotNone(likeness(found, rows_device(2, N)))
        keep = [plain_step(3, i, j, 1) for i, j in ((0, 1), (0, 2), (1, 2), (2, 1))]
        for N in (2, 3):
            self.assertIsNotNone(likeness(cosets_device(3, N, keep), rows_device(3, N)))

    def test_tables_of_any_size_and_more_than_needed(self):
        expected = moves_of(cosets_device(2, 8, [plain_step(2, 0, 1, 2)]))
        more = [plain_step(2, 0, 1, k) for k in (8 * BIG + 2, -2, 4, 0, BIG * 2, 8)]
        self.assertEqual(moves_of(cosets_device(2, 8, more)), expected)
        self.assertEqual(moves_of(cosets_device(2, 8, more * 40)), expected)
        self.assertEqual(moves_of(cosets_device(2, 8, [plain_step(2, 0, 1, 6), plain_identity(2)])), expected)

    def test_one_piece(self):
        for tables in ([], [plain_step(2, 0, 1, 1)], [((0, -1), (1, 0))]):
            for N in (2, 3, 5):
                device = cosets_device(2, N, tables)
                self.assertEqual(pieces(device), [tuple(range(device.size))])

    def test_wrong_numbers(self):
        wrong = {2: WRONG_NUMBERS + [17, 18, 60], 3: WRONG_NUMBERS + [4, 5, 16, 60]}
        for tables in ([], [None], [plain_identity(2)], [plain_identity(3)]):
            for n in WRONG_SIZES:
                for N in (2, 1, True):
                    with self.subTest(n=n, N=N), self.assertRaises(BadNumber):
                        cosets_device(n, N, tables)
            for n in (2, 3):
                for N in wrong[n]:
                    with self.subTest(n=n, N=N), self.assertRaises(BadNumber):
                        cosets_device(n, N, tables)

    def test_wrong_tables_come_ahead_of_too_many_states(self):
        for n, N in ((2, 2), (2, 16), (3, 2), (3, 3)):
            for at, value in enumerate(WRONG_TABLES):
                with self.subTest(n=n, N=N, at=at):
                    with self.assertRaises(BadTable):
                        cosets_device(n, N, [value])
                    with self.assertRaises(BadTable):
                        cosets_device(n, N, [plain_step(n, 0, 1, 1), value, plain_identity(n)])
            for table in (plain_identity(5 - n), plain_step(5 - n, 0, 1, 1)):
                with self.assertRaises(BadTable):
                    cosets_device(n, N, [table])
                with self.assertRaises(BadTable):
                    cosets_device(n, N, [plain_identity(n), table])

    def test_the_list_is_left_as_it_was_and_may_be_changed(self):
        tables = [A, B]
        before = copy.deepcopy(tables)
        device = cosets_device(3, 2, tables)
        moves = moves_of(device)
        self.assertEqual(tables, before)
        tables.clear()
        self.assertEqual(moves_of(device), moves)
        self.assertEqual(cosets_device(3, 2, tables).size, 168)
        self.assertEqual(moves_of(cosets_device(3, 2, before)), moves)


class SpeedTest(unittest.TestCase):
    def timed(self, function, *rest):
        start = time.process_time()
        try:
            function(*rest)
        except RowstepsError:
            pass
        self.assertLess(time.process_time() - start, 1.5, (function, rest))

    def test_rows_lines_and_planes(self):
        for function in (rows_device, lines_device, planes_device):
            for n, N in ((2, 16), (2, 60), (3, 13), (3, 59), (3, 60)):
                self.timed(function, n, N)

    def test_cosets(self):
        for n, N in ((2, 16), (2, 13), (3, 3)):
            places = all_places(n)
            self.timed(cosets_device, n, N, [plain_step(n, i, j, 1) for i, j in places])
            self.timed(cosets_device, n, N, [plain_step(n, 0, j, 1) for j in range(1, n)])
            self.timed(cosets_device, n, N, [plain_step(n, i, j, k) for k in (8, 4, 2, 1) for i, j in places])
            self.timed(cosets_device, n, N, [plain_product(n, mixed_word(n, 9, seed, 5)) for seed in range(100)])


if __name__ == "__main__":
    unittest.main()
