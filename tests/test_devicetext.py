"""[2.12] and [2.13]."""

import re
import time
import unittest

from rowsteps.device import Device
from rowsteps.devicetext import device_of, text_of
from rowsteps.errors import BadText, RowstepsError
from rowsteps.made import lines_device
from tests.devicesamples import NO_ORDER, SAMPLES, broken_rules, moves_of, still
from tests.samples import BIG, all_places

EXAMPLE = "device 2 3\n0 1 2 1 0\n1 0 0 2 1\n"


def plain_text(n, moves):
    lines = [f"device {n} {len(moves[(0, 1)])}"]
    for i, j in all_places(n):
        lines.append(" ".join(map(str, (i, j) + moves[(i, j)])))
    return "".join(line + "\n" for line in lines)


def is_text(text):
    """Whether a text is that of a device, read by its form, line by line."""
    if not re.fullmatch(r"device [23] [0-9]+\n([0-9]+( [0-9]+)*\n)*", text, re.ASCII):
        return False
    lines = [line.split(" ") for line in text.split("\n")[:-1]]
    if any(word != str(int(word)) for line in lines for word in line[1:] if len(word) < 9):
        return False
    n, places = int(lines[0][1]), all_places(int(lines[0][1]))
    if [line[:2] for line in lines[1:]] != [[str(i), str(j)] for i, j in places]:
        return False
    if len(lines[0][2]) > 3 or not 1 <= int(lines[0][2]) <= 200:
        return False
    size = int(lines[0][2])
    right = sorted(map(str, range(size)))
    if any(sorted(line[2:]) != right for line in lines[1:]):
        return False
    return not broken_rules(n, {pair: tuple(map(int, line[2:])) for pair, line in zip(places, lines[1:])})


class TextOfTest(unittest.TestCase):
    def test_the_example_of_the_document(self):
        self.assertEqual(text_of(lines_device(2, 2)), EXAMPLE)

    def test_all(self):
        for name, device in SAMPLES.items():
            with self.subTest(name=name):
                found = text_of(device)
                self.assertIs(type(found), str)
                self.assertEqual(found, plain_text(device.n, moves_of(device)))
                self.assertTrue(is_text(found))

    def test_told(self):
        self.assertEqual(text_of(still(2, 1)), "device 2 1\n0 1 0\n1 0 0\n")
        self.assertEqual(text_of(still(3, 2)),
                         "device 3 2\n0 1 0 1\n0 2 0 1\n1 0 0 1\n1 2 0 1\n2 0 0 1\n2 1 0 1\n")

    def test_the_order_of_the_dict_does_not_matter(self):
        moves = moves_of(SAMPLES["lines 3 2"])
        other = {pair: moves[pair] for pair in reversed(list(moves))}
        self.assertEqual(text_of(Device(3, other)), text_of(SAMPLES["lines 3 2"]))


class DeviceOfTest(unittest.TestCase):
    def assert_refused(self, text):
        with self.assertRaises(BadText):
            device_of(text)

    def test_the_example_of_the_document(self):
        device = device_of(EXAMPLE)
        self.assertEqual((device.n, device.size, device.round), (2, 3, 2))
        self.assertEqual(moves_of(device), {(0, 1): (2, 1, 0), (1, 0): (0, 2, 1)})

    def test_each_text_read_back(self):
        for name, device in SAMPLES.items():
            text = plain_text(device.n, moves_of(device))
            found = device_of(text)
            with self.subTest(name=name):
                self.assertIs(type(found), Device)
                self.assertEqual(moves_of(found), moves_of(device))
                self.assertEqual((found.n, found.size, found.round), (device.n, device.size, device.round))
                self.assertEqual(text_of(found), text)

    def test_a_new_device_each_time(self):
        self.assertIsNot(device_of(EXAMPLE), device_of(EXAMPLE))
        self.assertEqual(device_of(text=EXAMPLE).size, 3)

    def test_one_sign_changed_missing_or_more(self):
        signs = "0123456789 \n\t\r-+devic._x\u0663\u00b2\uff11\u2028\x00\x0b\x1c"
        for name in ("one of two", "one of three", "lines 2 4", "lines 3 2", "twelve"):
            text = plain_text(SAMPLES[name].n, moves_of(SAMPLES[name]))
            kept = 0
            for at in range(len(text) + 1):
                for sign in ("",) + tuple(signs):
                    for changed in (text[:at] + sign + text[at:], text[:at] + sign + text[at + 1:]):
                        if is_text(changed):
                            kept += 1
                            self.assertEqual(text_of(device_of(changed)), changed)
                        else:
                            with self.subTest(name=name, changed=changed):
                                self.assert_refused(changed)
            self.assertGreater(kept, 0)

    def test_lines_missing_double_or_in_another_order(self):
        for name in ("one of two", "one of three", "lines 2 4", "lines 3 2", "cosets 3 2", "still 5"):
            lines = plain_text(SAMPLES[name].n, moves_of(SAMPLES[name])).splitlines(keepends=True)
            for at in range(len(lines)):
                self.assert_refused("".join(lines[:at] + lines[at + 1:]))
                self.assert_refused("".join(lines[:at] + [lines[at]] + lines[at:]))
                self.assert_refused("".join(lines[:at] + ["\n"] + lines[at:]))
                self.assert_refused("".join(lines[:at] + [lines[at] + " "] + lines[at + 1:]))
                self.assert_refused("".join(lines[:at]))
                for other in range(at):
                    swapped = list(lines)
                    swapped[at], swapped[other] = swapped[other], swapped[at]
                    self.assert_refused("".join(swapped))
            self.assert_refused("".join(lines) * 2)
            self.assert_refused("".join(lines) + lines[-1])
            self.assert_refused("".join(lines)[:-1])
            self.assert_refused("".join(lines) + "\n")
            self.assert_refused("\n" + "".join(lines))
            self.assert_refused("".join(lines).replace("\n", "\r\n"))
            self.assert_refused("".join(lines).replace("\n", "\r"))
            self.assert_refused("".join(lines).replace(" ", "  "))
            self.assert_refused("".join(lines).replace(" ", "\t"))
            self.assert_refused("".join(lines).replace(" ", "\u00a0"))

    def test_written_wrong(self):
        for text in (
            "", "\n", " ", "\n\n", "device", "device\n", "device 2\n", "device 2 1", "device 2 1\n", "device 3 1\n",
            "device  2 1\n0 1 0\n1 0 0\n", "Device 2 1\n0 1 0\n1 0 0\n", "DEVICE 2 1\n0 1 0\n1 0 0\n",
            "device 2 1 \n0 1 0\n1 0 0\n", " device 2 1\n0 1 0\n1 0 0\n", "device 2 1\n 0 1 0\n1 0 0\n",
            "device 2 1 1\n0 1 0\n1 0 0\n", "device 2\n0 1 0\n1 0 0\n", "2 1\n0 1 0\n1 0 0\n", "device 1 2\n0 1 0\n1 0 0\n",
            "device +2 1\n0 1 0\n1 0 0\n", "device 02 1\n0 1 0\n1 0 0\n", "device 2 01\n0 1 0\n1 0 0\n",
            "device 2 1\n00 1 0\n1 0 0\n", "device 2 1\n0 01 0\n1 0 0\n", "device 2 1\n0 1 00\n1 0 0\n",
            "device 2 1\n0 1 -0\n1 0 0\n", "device 2 1\n0 1 +0\n1 0 0\n", "device 2 1\n0 1 0.0\n1 0 0\n",
            "device 2 1\n0 1 0_0\n1 0 0\n", "device 2 1\n0 1 0x0\n1 0 0\n", "device 2 1\n0 1 0\n1 0 0\n ",
            "device 2 1\n0 1 0\n1 0 0\nx", "device 2 1\n0 1 0\n1 0 0\n0", "device 2 1\n0 1 0\n1 0 0\n2 0 0\n",
            "device 2 1\n0 1 0\n0 1 0\n", "device 2 1\n0 1 0\n1 1 0\n", "device 2 1\n1 0 0\n0 1 0\n",
            "device 2 1\n0 1\n1 0\n", "device 2 0\n0 1\n1 0\n", "device 2 0\n0 1 \n1 0 \n", "device 2 1\n0\n1\n",
            "device 4 1\n0 1 0\n1 0 0\n", "device 3 1\n0 1 0\n1 0 0\n", "device 1 1\n", "device 0 0\n",
            "device 2 2\n0 1 0\n1 0 0\n", "device 2 1\n0 1 0 1\n1 0 0 1\n", "device 2 3\n0 1 2 1 0\n1 0 0 1 2\n",
            "device 2 3\n0 1 2 1 0\n1 0 0 2 2\n", "device 2 3\n0 1 2 1 3\n1 0 0 2 1\n", "device 2 3\n0 1 2 1\n1 0 0 2\n",
            "device 2 1\n0 1 \u0660\n1 0 0\n", "device \u0662 1\n0 1 0\n1 0 0\n", "device 2 1\n0 1 \uff10\n1 0 0\n",
            "device 2 1\n0 1 \u2070\n1 0 0\n", "device 2 \u00b9\n0 1 0\n1 0 0\n", "\ufeffdevice 2 1\n0 1 0\n1 0 0\n",
            "device 2 1\r\n0 1 0\r\n1 0 0\r\n", "device 2 1\n0 1 0\n1 0 0\x00\n", "device 2 1\x0b0 1 0\x0b1 0 0\x0b",
            "device two 1\n0 1 0\n1 0 0\n", "device 2 1\n0, 1, 0\n1, 0, 0\n", "device 2 1\n0 1 (0,)\n1 0 (0,)\n",
        ):
            with self.subTest(text=text):
                self.assertFalse(is_text(text))
                self.assert_refused(text)

    def test_no_string(self):
        for value in (None, 0, True, b"device 2 1\n0 1 0\n1 0 0\n", [EXAMPLE], (EXAMPLE,), lines_device(2, 2)):
            with self.subTest(value=value):
                self.assert_refused(value)

    def test_numbers_that_are_too_large(self):
        for number in ("3", "200", "201", "999", "1000", "1000000", str(BIG), "9" * 5000, "1" + "0" * 20000):
            self.assert_refused(f"device 2 3\n0 1 2 1 {number}\n1 0 0 2 1\n")
            self.assert_refused(f"device 2 3\n0 {number} 2 1 0\n1 0 0 2 1\n")
            self.assert_refused(f"device {number if number != '3' else '4'} 3\n0 1 2 1 0\n1 0 0 2 1\n")
            if number != "3":
                self.assert_refused(f"device 2 {number}\n0 1 2 1 0\n1 0 0 2 1\n")

    def test_numbers_of_states(self):
        for n in (2, 3):
            for size in (1, 199, 200):
                text = plain_text(n, {pair: tuple(range(size)) for pair in all_places(n)})
                self.assertEqual(device_of(text).size, size)
            for size in (0, 201, 1000):
                self.assert_refused(plain_text(n, {pair: tuple(range(size)) for pair in all_places(n)}))

    def test_exchanges_that_keep_no_rule(self):
        self.assert_refused(plain_text(3, NO_ORDER))
        self.assert_refused("device 2 2\n0 1 1 0\n1 0 0 1\n")
        self.assert_refused("device 2 5\n0 1 1 2 3 4 0\n1 0 4 0 1 2 3\n")
        for pair in all_places(3):
            self.assert_refused(plain_text(3, {**{other: (0, 1) for other in all_places(3)}, pair: (1, 0)}))

    def test_the_error_is_the_one_that_is_told(self):
        for text in ("", EXAMPLE[:-1], EXAMPLE.replace("2", "9"), "device 2 2\n0 1 1 0\n1 0 0 1\n"):
            try:
                device_of(text)
            except RowstepsError as error:
                self.assertIs(type(error), BadText)


class SpeedTest(unittest.TestCase):
    def test_long_texts(self):
        start = time.process_time()
        for name in ("two rows 200 6", "still 200", "lines 3 13"):
            self.assertEqual(moves_of(device_of(text_of(SAMPLES[name]))), moves_of(SAMPLES[name]))
        for text in ("device 2 3\n" + "0 1 2 1 0\n" * 50000, "device 2 3\n0 1" + " 1" * 200000 + "\n", "7" * 10 ** 6,
                     "device 2 " + "3" * 10 ** 6 + "\n0 1 2\n", "\n" * 10 ** 5, " " * 10 ** 5):
            with self.assertRaises(BadText):
                device_of(text)
        self.assertLess(time.process_time() - start, 2)


if __name__ == "__main__":
    unittest.main()
