"""[7.8], the example of [7.9] that speaks of it, and what holds over the whole program."""

import time
import unittest

from rowsteps.apart import apart, turned_step
from rowsteps.devicetext import device_of, text_of
from rowsteps.errors import BadNumber, BadText, TooLarge
from rowsteps.few import few_device
from rowsteps.find import paper
from rowsteps.made import cosets_device, lines_device, planes_device, rows_device
from rowsteps.modulo import lifted, rest
from rowsteps.papers import judge, worth
from rowsteps.parted import beside, paired, renamed
from rowsteps.remains import act_modulo, is_told
from rowsteps.tables import bordered, identity
from rowsteps.turning import is_made
from rowsteps.whole import answer
from tests.devicesamples import SAMPLES, mixed, moves_of, plain_order, plain_rest, still
from tests.papersamples import Mixer, is_one_modulo, plain_worth
from tests.samples import BIG, all_places, plain_identity, plain_step, plain_times
from tests.toldsamples import is_told_plainly, remainder_devices, small_devices

EXAMPLE = "device 2 3\n0 1 2 1 0\n1 0 0 2 1\n"
WRONG_TEXTS = [
    "", "\n", "device", "device 2 3", "device 2 3\n", EXAMPLE[:-1], EXAMPLE + "\n", EXAMPLE + " ", " " + EXAMPLE,
    EXAMPLE.replace("device", "Device"), EXAMPLE.replace("2 3", "3 3"), EXAMPLE.replace("2 3", "2 4"),
    EXAMPLE.replace(" ", "  "), EXAMPLE.replace("\n", "\r\n"), EXAMPLE.replace("2 1 0", "2 1 1"),
    EXAMPLE.replace("0 1 2 1 0", "0 1 0 1 2"), EXAMPLE.replace("2 3", "2 03"), EXAMPLE.replace("2 3", "+2 3"),
    "device 2 3\n1 0 0 2 1\n0 1 2 1 0\n", "device 2 0\n0 1\n1 0\n", "device 1 1\n", "device 4 1\n", EXAMPLE * 2,
    "device 2 201\n0 1 " + " ".join(map(str, range(201))) + "\n1 0 " + " ".join(map(str, range(201))) + "\n",
]


def plain_sizes(device):
    """The sizes of the pieces, in the order of their first states."""
    names = list(range(device.size))
    for _ in names:
        for move in moves_of(device).values():
            for state, goal in enumerate(move):
                names[state] = names[goal] = min(names[state], names[goal])
    return tuple(names.count(name) for name in dict.fromkeys(names))


def plain_text(device):
    lines = [f"device {device.n} {device.size}"]
    for pair in all_places(device.n):
        lines.append(" ".join(map(str, pair + device.move(*pair))))
    return "".join(line + "\n" for line in lines)


class AnswerTest(unittest.TestCase):
    def assert_answer(self, device, is_told_too):
        found = answer(plain_text(device))
        self.assertIs(type(found), tuple)
        self.assertEqual([type(item) for item in found], [int, int, int, tuple, bool])
        expected = (device.n, device.size, plain_order(device.move(0, 1)), plain_sizes(device), is_told_too)
        self.assertEqual(found, expected)

    def test_the_example_of_the_document(self):
        self.assertEqual(answer(EXAMPLE), (2, 3, 2, (3,), True))

    def test_devices_by_remainders(self):
        for device in remainder_devices():
            self.assert_answer(device, True)

    def test_other_devices_of_two_rows(self):
        both = set()
        for device in small_devices()[1::3]:
            both.add(is_told_plainly(device))
            self.assert_answer(device, is_told_plainly(device))
        self.assertEqual(both, {True, False})

    def test_devices_of_three_rows(self):
        for device in [still(3, 1), still(3, 200), lines_device(3, 2), planes_device(3, 13), rows_device(3, 4),
                       beside(lines_device(3, 5), beside(lines_device(3, 4), lines_device(3, 7)))]:
            self.assert_answer(device, True)
        pair = paired(lines_device(3, 2), planes_device(3, 2))
        self.assertEqual(answer(plain_text(pair))[:4], (3, 49, 2, plain_sizes(pair)))
        both = renamed(beside(still(3, 2), few_device("eight")), mixed(10, 3))
        self.assert_answer(both, True)

    def test_told(self):
        self.assertEqual(answer("device 2 1\n0 1 0\n1 0 0\n"), (2, 1, 1, (1,), True))
        self.assertEqual(answer("device 3 1\n0 1 0\n0 2 0\n1 0 0\n1 2 0\n2 0 0\n2 1 0\n"), (3, 1, 1, (1,), True))

    def test_texts_that_are_none(self):
        for text in WRONG_TEXTS:
            with self.subTest(text=text[:40]), self.assertRaises(BadText):
                answer(text)

    def test_large_rounds(self):
        for device in (lines_device(2, 17), lines_device(2, 60), paired(lines_device(2, 3), lines_device(2, 7))):
            with self.assertRaises(TooLarge):
                answer(plain_text(device))
        self.assertEqual(answer(plain_text(lines_device(2, 16)))[2:], (16, (24,), True))


def three_rows():
    found = [few_device("eight"), lines_device(3, 3), planes_device(3, 4), rows_device(3, 2), lines_device(3, 6)]
    return found + [paired(lines_device(3, 2), lines_device(3, 3)), beside(planes_device(3, 5), few_device("points"))]


class WholeTest(unittest.TestCase):
    def test_a_lifted_table_does_what_the_remainders_tell(self):
        for seed, device in enumerate(three_rows()):
            mixer = Mixer(seed)
            for _ in range(6):
                square = plain_rest(device.round, mixer.turner(3, 9))
                table = lifted(device.round, square)
                found = [act_modulo(device, square, state) for state in range(device.size)]
                self.assertEqual(list(device.exchange(table)), found)
                self.assertEqual(rest(device.round, table), square)

    def test_a_table_that_is_made_does_nothing(self):
        devices = three_rows() + [device for device in SAMPLES.values() if device.round <= 30]
        for seed, device in enumerate(devices):
            for N in range(2, 31):
                if N % device.round == 0:
                    value = Mixer(seed + N).paper(device.n, 3, 4, (1, -2, BIG))
                    table = worth(N, device.n, value)
                    self.assertEqual(device.exchange(table), tuple(range(device.size)))

    def test_tables_alike_do_the_same_where_it_is_promised(self):
        for seed, device in enumerate(three_rows() + [rows_device(2, 5), lines_device(2, 4), cosets_device(2, 3, [])]):
            table = Mixer(seed).turner(device.n, 8)
            other = plain_times(table, plain_worth(device.round, device.n, Mixer(seed + 50).paper(device.n, 3, 3)))
            self.assertEqual(plain_rest(device.round, table), plain_rest(device.round, other))
            self.assertEqual(device.exchange(table), device.exchange(other))

    def test_what_is_made_for_two_rows_and_what_is_not(self):
        for N in range(6, 31):
            for table in [apart(N)] + ([turned_step(N, u) for u in (N - 1, 1)] if N > 6 else []):
                self.assertTrue(is_one_modulo(N, table))
                self.assertIs(is_made(N, table), table != apart(N))
                with self.assertRaises(BadNumber):
                    paper(N, table)
                found = paper(N, bordered(table))
                self.assertEqual(plain_worth(N, 3, found), bordered(table))
                self.assertIs(judge(N, bordered(table), found), True)

    def test_what_has_a_paper_is_made(self):
        for N in (2, 3, 4, 5):
            for seed in range(6):
                table = plain_worth(N, 2, Mixer(seed).paper(2, 4, 5))
                self.assertIs(is_made(N, table), True)
                self.assertIs(judge(N, table, paper(N, table)), True)
        for N in range(6, 31, 4):
            table = plain_worth(N, 2, Mixer(N).paper(2, 4, 5))
            self.assertIs(is_made(N, table), True)
            self.assertIs(is_made(N, plain_times(table, apart(N))), False)

    def test_true_and_false_are_no_numbers(self):
        one = plain_identity(3)
        for wrong in (True, False):
            for call in (lambda N: paper(N, one), lambda N: worth(N, 3, ()), lambda N: judge(N, one, ())):
                with self.assertRaises(BadNumber):
                    call(wrong)
            with self.assertRaises(BadNumber):
                identity(wrong)

    def test_texts_and_back(self):
        for device in three_rows():
            text = text_of(device)
            self.assertEqual(text_of(device_of(text)), text)
            self.assertEqual(answer(text)[4], is_told(device))

    def test_a_step_of_the_round_is_found_again(self):
        for N in (6, 7, 30):
            table = plain_step(3, 2, 1, N)
            self.assertEqual(plain_worth(N, 3, paper(N, table)), table)


class SpeedTest(unittest.TestCase):
    def test_the_largest_texts(self):
        for device in (rows_device(2, 16), still(3, 200), cosets_device(3, 2, [])):
            text = plain_text(device)
            start = time.process_time()
            answer(text)
            self.assertLess(time.process_time() - start, 1.5)


if __name__ == "__main__":
    unittest.main()
