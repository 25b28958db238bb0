"""[3.9]."""

import time
import unittest

from rowsteps.device import Device
from rowsteps.errors import BadDevice, BadNumber
from rowsteps.made import lines_device, rows_device
from rowsteps.parted import beside, paired
from rowsteps.tables import is_table
from rowsteps.told import told_apart
from rowsteps.words import word_of
from tests.devicesamples import double_two_rows, moves_of, plain_act, plain_rest, still, twelve, two_rows
from tests.toldsamples import is_told_plainly, remainder_devices, small_devices


class ToldApartTest(unittest.TestCase):
    def assert_apart(self, device, found):
        self.assertIs(type(found), tuple)
        first, second = found
        for table in (first, second):
            self.assertIs(is_table(table), True)
            self.assertEqual(len(table), 2)
        self.assertEqual(plain_rest(device.round, first), plain_rest(device.round, second))
        words = [word_of(table) for table in (first, second)]
        goals = [[plain_act(device, word, state) for state in range(device.size)] for word in words]
        self.assertNotEqual(*goals)

    def test_devices_of_remainders_are_told(self):
        for device in remainder_devices():
            self.assertTrue(is_told_plainly(device))
            self.assertIsNone(told_apart(device))

    def test_mixed_devices(self):
        told = apart = 0
        for device in small_devices():
            found = told_apart(device)
            if is_told_plainly(device):
                told += 1
                self.assertIsNone(found)
            else:
                apart += 1
                self.assert_apart(device, found)
        self.assertGreater(told, 50)
        self.assertGreater(apart, 50)

    def test_rounds_to_five_are_always_told(self):
        rounds = set()
        for device in small_devices():
            if device.round <= 5:
                rounds.add(device.round)
                self.assertIsNone(told_apart(device))
        self.assertEqual(rounds, {1, 2, 3, 4, 5})

    def test_rounds_from_six_on_may_be_told_apart(self):
        rounds = set()
        for device in small_devices():
            if told_apart(device) is not None:
                rounds.add(device.round)
        self.assertEqual(min(rounds), 6)
        self.assertTrue({6, 7, 8, 10, 12} <= rounds, rounds)

    def test_greater_devices(self):
        both = set()
        for device in [double_two_rows(6, seed) for seed in range(6)] + [twelve(), two_rows(14, 3), two_rows(13, 2)]:
            if device.round <= 16:
                found = told_apart(device)
                both.add(found is None)
                if is_told_plainly(device):
                    self.assertIsNone(found)
                else:
                    self.assert_apart(device, found)
        self.assertEqual(both, {True, False})

    def test_apart_beside_and_in_pairs(self):
        apart = next(device for device in small_devices() if device.round == 7 and not is_told_plainly(device))
        for device in (beside(lines_device(2, 7), apart), beside(apart, still(2, 3)), paired(apart, lines_device(2, 2))):
            self.assert_apart(device, told_apart(device))

    def test_rounds_above_sixteen(self):
        self.assertIsNone(told_apart(lines_device(2, 16)))
        self.assertIsNone(told_apart(rows_device(2, 16)))
        for device in (lines_device(2, 17), lines_device(2, 60), beside(lines_device(2, 3), lines_device(2, 16))):
            with self.assertRaises(BadNumber):
                told_apart(device)

    def test_three_rows(self):
        large = beside(lines_device(3, 13), lines_device(3, 3))
        self.assertEqual(large.round, 39)
        for device in (lines_device(3, 2), still(3, 1), large):
            with self.assertRaises(BadDevice):
                told_apart(device)

    def test_the_device_is_left_as_it_is(self):
        device = Device(2, moves_of(two_rows(9, 9003)))
        before = moves_of(device)
        first = told_apart(device)
        self.assertEqual(told_apart(device), first)
        self.assertEqual(moves_of(device), before)


class SpeedTest(unittest.TestCase):
    def test_the_largest_inputs(self):
        start = time.process_time()
        told_apart(rows_device(2, 16))
        told_apart(beside(lines_device(2, 13), rows_device(2, 13)))
        self.assertLess(time.process_time() - start, 3)


if __name__ == "__main__":
    unittest.main()
