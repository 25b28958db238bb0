"""[7.1] to [7.4] and [7.7], and the example of [7.9] that speaks of them."""

import time
import unittest

from rowsteps.device import Device
from rowsteps.errors import BadDevice, BadState, BadTable, TooLarge
from rowsteps.made import cosets_device, lines_device, planes_device, rows_device
from rowsteps.parted import beside, paired, renamed
from rowsteps.remains import act_modulo, gone, is_told, number_kept
from rowsteps.tables import is_table
from rowsteps.told import told_apart
from rowsteps.words import word_of
from tests.devicesamples import SAMPLES, mixed, moves_of, plain_act, plain_rest, still, then, two_rows
from tests.papersamples import Mixer
from tests.samples import (
    BIG, WRONG_DETERMINANTS, WRONG_ITEMS, WRONG_KINDS, WRONG_LENGTHS, WRONG_LISTS, all_places, mixed_word,
    plain_determinant, plain_identity, plain_product, plain_step, plain_times,
)
from tests.toldsamples import is_told_plainly, remainder_devices, small_devices

ONE = plain_identity(3)
WRONG_STATES = [-1, -2, BIG, -BIG, True, False, None, 0.0, "0", (0,), [0]]


def devices():
    """Devices of three rows by remainders, with their rounds."""
    lines, planes = lines_device(3, 2), planes_device(3, 2)
    return [
        (still(3, 1), 1), (still(3, 4), 1), (lines, 2), (planes, 2), (lines_device(3, 3), 3), (rows_device(3, 3), 3),
        (rows_device(3, 4), 4), (planes_device(3, 4), 4), (lines_device(3, 5), 5), (lines_device(3, 6), 6),
        (rows_device(3, 2), 2), (cosets_device(3, 2, []), 2), (cosets_device(3, 2, [plain_step(3, 0, 1, 1)]), 2),
        (paired(lines, planes), 2), (paired(lines, lines_device(3, 3)), 6), (beside(lines_device(3, 4), lines), 4),
        (beside(beside(lines, lines_device(3, 3)), planes_device(3, 5)), 30),
        (renamed(beside(planes, still(3, 3)), mixed(10, 5)), 2), (lines_device(3, 13), 13), (round_of(60), 60),
    ]


def round_of(N):
    """A device of three rows with the round N."""
    device = still(3, 1)
    for q in (3, 4, 5, 7):
        if N % q == 0:
            device = beside(device, lines_device(3, q))
    return device


LARGE = [round_of(84), round_of(105), paired(round_of(84), still(3, 2))]
DEVICES = devices()


def rests_and_exchanges(device):
    """For each rest modulo the round the exchange of the tables that have it."""
    makers = [(plain_step(3, i, j, 1), device.move(i, j)) for i, j in all_places(3)]
    one = plain_rest(device.round, ONE)
    found, new = {one: tuple(range(device.size))}, [one]
    while new:
        rest = new.pop()
        for maker, move in makers:
            other = plain_rest(device.round, plain_times(rest, maker))
            if other not in found:
                found[other] = then(move, found[rest])
                new.append(other)
    return found


def shaken(N, table, mixer):
    """A square with the remainders of a table, with any items else."""
    return tuple(tuple(item + N * mixer.pick([0, 1, -1, 7, BIG, -BIG]) for item in row) for row in table)


class ActModuloTest(unittest.TestCase):
    def test_words_with_multiples_of_the_round(self):
        for at, (device, N) in enumerate(DEVICES):
            self.assertEqual(device.round, N)
            mixer = Mixer(at)
            for seed in range(5):
                word = mixed_word(3, 3 + 2 * seed, 31 * at + seed, 4)
                table = plain_product(3, word)
                states = sorted({mixer.below(device.size) for _ in range(12)})
                for value in (table, plain_rest(N, table), shaken(N, table, mixer)):
                    self.assertEqual((plain_determinant(value) - 1) % N, 0)
                    for state in states:
                        found = act_modulo(device, value, state)
                        self.assertIs(type(found), int)
                        self.assertEqual(found, plain_act(device, word, state))

    def test_every_rest(self):
        for device in (lines_device(3, 2), planes_device(3, 2), still(3, 3)):
            for rest, exchange in rests_and_exchanges(device).items():
                found = tuple(act_modulo(device, rest, state) for state in range(device.size))
                self.assertEqual(found, exchange)

    def test_tables_do_what_their_remainders_do(self):
        for device, N in DEVICES:
            for seed in range(3):
                table = Mixer(seed).turner(3, 10)
                expected = tuple(act_modulo(device, plain_rest(N, table), state) for state in range(device.size))
                self.assertEqual(device.exchange(table), expected)

    def test_the_round_one(self):
        device = still(3, 4)
        zeros = ((0, 0, 0),) * 3
        for value in (zeros, ONE, ((1, 2, 3), (4, 5, 6), (7, 8, 9)), ((BIG, 0, 1), (1, 1, 1), (0, -BIG, 0))):
            self.assertEqual([act_modulo(device, value, state) for state in range(4)], [0, 1, 2, 3])

    def test_a_determinant_that_is_not_one(self):
        device = lines_device(3, 5)
        self.assertEqual(act_modulo(device, ((2, 0, 0), (0, 3, 0), (0, 0, 1)), 0), 0)
        for value in (((2, 0, 0), (0, 2, 0), (0, 0, 1)), ((0, 0, 0), (0, 1, 0), (0, 0, 1)), ((4, 0, 0), (0, 1, 0), (0, 0, 1))):
            with self.assertRaises(BadTable):
                act_modulo(device, value, 0)

    def test_two_rows_come_first(self):
        for device in (lines_device(2, 2), still(2, 1), rows_device(2, 16), lines_device(2, 60)):
            for table, state in ((plain_identity(2), 0), (ONE, 0), (None, None), (ONE, -1)):
                with self.assertRaises(BadDevice):
                    act_modulo(device, table, state)

    def test_then_a_large_round(self):
        for device in LARGE:
            self.assertGreater(device.round, 60)
            for table, state in ((ONE, 0), (None, 0), (ONE, -1), (None, None)):
                with self.assertRaises(TooLarge):
                    act_modulo(device, table, state)

    def test_then_wrong_tables(self):
        wrong = WRONG_KINDS + WRONG_LISTS + WRONG_LENGTHS + WRONG_ITEMS
        for device, N in DEVICES[1:3] + DEVICES[-1:]:
            others = [table for table in WRONG_DETERMINANTS if len(table) == 2 or (plain_determinant(table) - 1) % N]
            for value in wrong + others + [plain_identity(2), plain_step(2, 0, 1, N)]:
                for state in (0, -1, None):
                    with self.assertRaises(BadTable):
                        act_modulo(device, value, state)

    def test_then_wrong_states(self):
        for device, _ in DEVICES:
            for state in WRONG_STATES + [device.size, device.size + 1]:
                with self.assertRaises(BadState):
                    act_modulo(device, ONE, state)


class NumberKeptTest(unittest.TestCase):
    def test_the_example_of_the_document(self):
        for state in range(7):
            self.assertEqual(number_kept(lines_device(3, 2), state), 24)

    def test_counted_one_by_one(self):
        three = beside(lines_device(3, 3), still(3, 2))
        for device in [device for device, N in DEVICES if N == 2 and device.size < 100] + [three]:
            exchanges = list(rests_and_exchanges(device).values())
            for state in range(device.size):
                found = number_kept(device, state)
                self.assertIs(type(found), int)
                self.assertEqual(found, sum(exchange[state] == state for exchange in exchanges))

    def test_told(self):
        self.assertEqual(number_kept(still(3, 4), 2), 1)
        self.assertEqual(number_kept(cosets_device(3, 2, []), 100), 1)
        both = beside(lines_device(3, 2), lines_device(3, 3))
        # There are 168 * 5616 tables of remainders modulo 6, and pieces with 7 and with 13 states.
        self.assertEqual({number_kept(both, state) for state in range(7)}, {168 * 5616 // 7})
        self.assertEqual({number_kept(both, state) for state in range(7, 20)}, {168 * 5616 // 13})
        # A point lies in a plane in 21 pairs, and does not in 28.
        flags = paired(lines_device(3, 2), planes_device(3, 2))
        self.assertEqual(sorted(number_kept(flags, state) for state in range(49)), [168 // 28] * 28 + [168 // 21] * 21)
        self.assertEqual(number_kept(round_of(60), 0), 43008 * 5616 * 372000)

    def test_errors_in_their_order(self):
        for device in (lines_device(2, 2), lines_device(2, 60)):
            for state in (0, -1, None):
                with self.assertRaises(BadDevice):
                    number_kept(device, state)
        for device in LARGE:
            for state in (0, -1, None):
                with self.assertRaises(TooLarge):
                    number_kept(device, state)
        for device, _ in DEVICES:
            for state in WRONG_STATES + [device.size]:
                with self.assertRaises(BadState):
                    number_kept(device, state)


def plain_piece(device, start):
    found, new = {start}, [start]
    while new:
        state = new.pop()
        for move in moves_of(device).values():
            if move[state] not in found:
                found.add(move[state])
                new.append(move[state])
    return found


class GoneTest(unittest.TestCase):
    def assert_gone(self, device, start, goal, piece):
        table = gone(device, start, goal)
        if goal not in piece:
            self.assertIsNone(table)
        else:
            self.assertIs(is_table(table), True)
            self.assertEqual(len(table), device.n)
            self.assertEqual(plain_act(device, word_of(table), start), goal)

    def test_all_pairs(self):
        for device, _ in DEVICES:
            if device.size <= 32:
                for start in range(device.size):
                    piece = plain_piece(device, start)
                    for goal in range(device.size):
                        self.assert_gone(device, start, goal, piece)

    def test_large_devices_and_two_rows(self):
        for device in [device for device, _ in DEVICES] + list(SAMPLES.values()) + LARGE:
            mixer = Mixer(device.size)
            for _ in range(6):
                start = mixer.below(device.size)
                piece = plain_piece(device, start)
                for goal in (start, mixer.below(device.size), max(piece), 0, device.size - 1):
                    self.assert_gone(device, start, goal, piece)

    def test_far_away(self):
        """A ring on which one step leads forwards, and the other one backwards."""
        ring = Device(2, {(0, 1): tuple((s + 1) % 12 for s in range(12)), (1, 0): tuple((s - 1) % 12 for s in range(12))})
        for start in range(12):
            for goal in range(12):
                self.assert_gone(ring, start, goal, range(12))

    def test_wrong_states(self):
        for device in (lines_device(3, 2), beside(lines_device(2, 3), still(2, 2)), LARGE[0]):
            for wrong in WRONG_STATES + [device.size]:
                for right in (0, device.size - 1, wrong):
                    with self.assertRaises(BadState):
                        gone(device, wrong, right)
                    with self.assertRaises(BadState):
                        gone(device, right, wrong)


class IsToldTest(unittest.TestCase):
    def test_three_rows(self):
        for device in [device for device, _ in DEVICES] + LARGE:
            self.assertIs(is_told(device), True)

    def test_two_rows(self):
        both = set()
        for device in remainder_devices() + small_devices()[::3]:
            found = is_told(device)
            both.add(found)
            self.assertIs(found, is_told_plainly(device))
            self.assertIs(found, told_apart(device) is None)
        self.assertEqual(both, {True, False})

    def test_large_rounds(self):
        self.assertIs(is_told(lines_device(2, 16)), True)
        for device in (lines_device(2, 17), lines_device(2, 60), paired(lines_device(2, 3), lines_device(2, 7))):
            self.assertGreater(device.round, 16)
            with self.assertRaises(TooLarge):
                is_told(device)

    def test_the_device_is_left_as_it_is(self):
        for device in (two_rows(9, 9003), lines_device(3, 3)):
            before = moves_of(device)
            is_told(device)
            gone(device, 0, 1)
            if device.n == 3:
                act_modulo(device, ONE, 1)
                number_kept(device, 1)
            self.assertEqual(moves_of(device), before)


class SpeedTest(unittest.TestCase):
    def test_the_largest_inputs(self):
        start = time.process_time()
        device = DEVICES[-1][0]
        for state in range(device.size):
            act_modulo(device, shaken(60, ONE, Mixer(state)), state)
            number_kept(device, state)
        large = cosets_device(3, 2, [])
        for goal in range(large.size):
            gone(large, 0, goal)
        is_told(rows_device(2, 16))
        self.assertLess(time.process_time() - start, 3)


if __name__ == "__main__":
    unittest.main()
