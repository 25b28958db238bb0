"""[3.9]."""

import time
import unittest

from rowsteps.device import Device
from rowsteps.errors import BadDevice, BadNumber
from rowsteps.made import cosets_device, lines_device, planes_device, rows_device
from rowsteps.modulo import count
from rowsteps.parted import beside, paired, renamed
from rowsteps.tables import is_table
from rowsteps.told import told_apart
from rowsteps.words import word_of
from tests.devicesamples import double_two_rows, mixed, moves_of, plain_act, plain_rest, still, then, twelve, two_rows
from tests.samples import plain_identity, plain_step, plain_times

STEPS = ((0, 1), (1, 0))


def is_told_plainly(device):
    """Go through the pairs of a rest and an exchange that tables have: each rest comes with one exchange only?"""
    makers = [(plain_step(2, i, j, 1), device.move(i, j)) for i, j in STEPS]
    one = (plain_rest(device.round, plain_identity(2)), tuple(range(device.size)))
    found, new = {one}, [one]
    while new and len(found) <= count(2, device.round):
        table, exchange = new.pop()
        for maker, move in makers:
            pair = (plain_rest(device.round, plain_times(table, maker)), then(move, exchange))
            if pair not in found:
                found.add(pair)
                new.append(pair)
    return len(found) == count(2, device.round)


def remainder_devices():
    found = [still(2, 1), still(2, 5)]
    for N in range(2, 13):
        found.append(lines_device(2, N))
        found.append(renamed(planes_device(2, N), mixed(planes_device(2, N).size, N)))
    found += [rows_device(2, N) for N in (2, 3, 5, 7, 12)]
    found += [cosets_device(2, 3, []), cosets_device(2, 4, [((1, 1), (0, 1))]), cosets_device(2, 5, [((0, -1), (1, 0))])]
    found += [beside(found[2], found[4]), beside(lines_device(2, 3), lines_device(2, 4))]
    found += [paired(lines_device(2, 2), lines_device(2, 3)), paired(rows_device(2, 2), lines_device(2, 4))]
    found += [paired(lines_device(2, 5), lines_device(2, 5))]
    return found


def small_devices():
    """Devices of two rows on 1 to 11 states whose exchanges are mixed."""
    found = []
    for size in range(1, 12):
        for seed in range(24):
            device = two_rows(size, 1000 * size + seed)
            if device.round <= 16:
                found.append(device)
    return found


class ToldApartTest(unittest.TestCase):
    def assert_apart(self, device, found):
        self.assertIs(type(found), tuple)
        first, second = found
        for table in (first, second):
            self.assertIs(is_table(table), True)
            self.assertEqual(len(table), 2)
        self.assertEqual(plain_rest(device.round, first), plain_rest(device.round, second))
        words = [word_of(table) for table in (first, second)]
        goals = [[plain_act(device, word, state) for state in range(device.size)] for word in words]
        self.assertNotEqual(*goals)

    def test_devices_of_remainders_are_told(self):
        for device in remainder_devices():
            self.assertTrue(is_told_plainly(device))
            self.assertIsNone(told_apart(device))

    def test_mixed_devices(self):
        told = apart = 0
        for device in small_devices():
            found = told_apart(device)
            if is_told_plainly(device):
                told += 1
                self.assertIsNone(found)
            else:
                apart += 1
                self.assert_apart(device, found)
        self.assertGreater(told, 50)
        self.assertGreater(apart, 50)

    def test_rounds_to_five_are_always_told(self):
        rounds = set()
        for device in small_devices():
            if device.round <= 5:
                rounds.add(device.round)
                self.assertIsNone(told_apart(device))
        self.assertEqual(rounds, {1, 2, 3, 4, 5})

    def test_rounds_from_six_on_may_be_told_apart(self):
        rounds = set()
        for device in small_devices():
            if told_apart(device) is not None:
                rounds.add(device.round)
        self.assertEqual(min(rounds), 6)
        self.assertTrue({6, 7, 8, 10, 12} <= rounds, rounds)

    def test_greater_devices(self):
        both = set()
        for device in [double_two_rows(6, seed) for seed in range(6)] + [twelve(), two_rows(14, 3), two_rows(13, 2)]:
            if device.round <= 16:
                found = told_apart(device)
                both.add(found is None)
                if is_told_plainly(device):
                    self.assertIsNone(found)
                else:
                    self.assert_apart(device, found)
        self.assertEqual(both, {True, False})

    def test_apart_beside_and_in_pairs(self):
        apart = next(device for device in small_devices() if device.round == 7 and not is_told_plainly(device))
        for device in (beside(lines_device(2, 7), apart), beside(apart, still(2, 3)), paired(apart, lines_device(2, 2))):
            self.assert_apart(device, told_apart(device))

    def test_rounds_above_sixteen(self):
        self.assertIsNone(told_apart(lines_device(2, 16)))
        self.assertIsNone(told_apart(rows_device(2, 16)))
        for device in (lines_device(2, 17), lines_device(2, 60), beside(lines_device(2, 3), lines_device(2, 16))):
            with self.assertRaises(BadNumber):
                told_apart(device)

    def test_three_rows(self):
        large = beside(lines_device(3, 13), lines_device(3, 3))
        self.assertEqual(large.round, 39)
        for device in (lines_device(3, 2), still(3, 1), large):
            with self.assertRaises(BadDevice):
                told_apart(device)

    def test_the_device_is_left_as_it_is(self):
        device = Device(2, moves_of(two_rows(9, 9003)))
        before = moves_of(device)
        first = told_apart(device)
        self.assertEqual(told_apart(device), first)
        self.assertEqual(moves_of(device), before)


class SpeedTest(unittest.TestCase):
    def test_the_largest_inputs(self):
        start = time.process_time()
        told_apart(rows_device(2, 16))
        told_apart(beside(lines_device(2, 13), rows_device(2, 13)))
        self.assertLess(time.process_time() - start, 3)


if __name__ == "__main__":
    unittest.main()
