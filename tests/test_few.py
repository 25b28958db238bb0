"""[7.5] and [7.6], and the example of [7.9] that speaks of them."""

import time
import unittest

from rowsteps.device import Device
from rowsteps.devicetext import text_of
from rowsteps.errors import BadDevice, BadKind
from rowsteps.few import few_device, kinds
from rowsteps.made import cosets_device, lines_device, planes_device, rows_device
from rowsteps.parted import beside, likeness, merged, paired, piece_of, pieces, renamed
from tests.devicesamples import mixed, plain_free_rows, still
from tests.papersamples import Mixer
from tests.samples import BIG, Awkward, plain_step

EIGHT = [((0, 0, 1), (1, 0, 1), (0, 1, 0)), ((1, 0, 0), (0, 0, -1), (0, 1, 1))]
FOUR = ("one", "points", "planes", "eight")


MODELS = {
    "one": still(3, 1), "points": lines_device(3, 2), "planes": planes_device(3, 2),
    "eight": cosets_device(3, 2, EIGHT), "more": lines_device(3, 3),
}


class FewDeviceTest(unittest.TestCase):
    def test_each_kind(self):
        for kind in FOUR:
            found = few_device(kind)
            self.assertIs(type(found), Device)
            self.assertEqual(text_of(found), text_of(MODELS[kind]))
            self.assertEqual(found.n, 3)
            self.assertEqual(len(pieces(found)), 1)
        self.assertEqual([few_device(kind).size for kind in FOUR], [1, 7, 7, 8])
        self.assertEqual([few_device(kind).round for kind in FOUR], [1, 2, 2, 2])

    def test_no_two_are_alike(self):
        for kind in FOUR:
            for other in FOUR:
                self.assertEqual(likeness(few_device(kind), few_device(other)) is not None, kind == other)

    def test_other_values(self):
        wrong = ["", "more", "One", "ONE", " one", "one ", "one\n", "point", "plane", "8", "seven", "oneone", "points planes"]
        wrong += [None, True, False, 0, 1, 7, 8, BIG, 1.0, b"one", ["one"], ("one",), {"one"}, {"one": 1}, [], (), {}]
        for value in wrong + [object(), Awkward(), str, still(3, 1), FOUR, list(FOUR), frozenset(FOUR)]:
            with self.assertRaises(BadKind):
                few_device(value)


class KindsTest(unittest.TestCase):
    def test_the_example_of_the_document(self):
        self.assertEqual(kinds(beside(lines_device(3, 2), few_device("one"))), ("points", "one"))

    def test_single_pieces(self):
        for kind, device in MODELS.items():
            found = kinds(device)
            self.assertIs(type(found), tuple)
            self.assertEqual(found, (kind,))
            for seed in range(12):
                self.assertEqual(kinds(renamed(device, mixed(device.size, seed))), (kind,))

    def test_beside_one_another_in_any_order(self):
        for seed in range(40):
            mixer = Mixer(seed)
            names = [mixer.pick(list(MODELS)) for _ in range(1 + mixer.below(6))]
            device = MODELS[names[0]]
            marks = [0] * device.size
            for at, name in enumerate(names[1:], 1):
                device = beside(device, MODELS[name])
                marks += [at] * MODELS[name].size
            self.assertEqual(kinds(device), tuple(names))
            order = mixed(device.size, seed)
            new_marks = [marks[order.index(state)] for state in range(device.size)]
            expected = [names[at] for at in dict.fromkeys(new_marks)]
            self.assertEqual(kinds(renamed(device, order)), tuple(expected))

    def test_less_than_seven_states(self):
        for size in range(1, 7):
            self.assertEqual(kinds(still(3, size)), ("one",) * size)
        self.assertEqual(kinds(still(3, 200)), ("one",) * 200)

    def test_greater_pieces(self):
        for device in (lines_device(3, 3), rows_device(3, 3), planes_device(3, 13), cosets_device(3, 2, []),
                       cosets_device(3, 2, [plain_step(3, 0, 1, 1)]), lines_device(3, 4)):
            self.assertEqual(kinds(device), ("more",))

    def test_pairs(self):
        self.assertEqual(kinds(paired(lines_device(3, 2), planes_device(3, 2))), ("more", "more"))
        self.assertEqual(sorted(kinds(paired(lines_device(3, 2), lines_device(3, 2)))), ["more", "points"])
        self.assertEqual(sorted(kinds(paired(few_device("eight"), few_device("eight")))), ["eight", "more"])
        self.assertEqual(kinds(paired(planes_device(3, 2), still(3, 2))), ("planes", "planes"))

    def test_every_group_of_sets_of_few_states(self):
        """Merge the states of the device of all remainders modulo 2: what has at most 8 states has a kind of its own."""
        makers = [[], EIGHT, EIGHT[:1], EIGHT[1:], [plain_step(3, 0, 1, 1), plain_step(3, 1, 0, 1)]]
        makers += [[plain_step(3, *place, 1) for place in places] for places in (
            [(0, 1), (0, 2), (1, 2), (2, 1)], [(0, 1), (1, 0), (2, 0), (2, 1)], [(0, 1), (1, 0), (0, 2), (1, 2)],
            [(1, 0), (2, 0), (1, 2), (2, 1)], [(0, 1), (1, 2)], [(0, 1), (1, 2), (2, 0)],
        )]
        sizes = set()
        for tables in makers:
            device = cosets_device(3, 2, tables)
            sizes.add(device.size)
            expected = {1: ("one",), 8: ("eight",)}.get(device.size, ("more",))
            if device.size == 7:
                self.assertIn(kinds(device), (("points",), ("planes",)))
            else:
                self.assertEqual(kinds(device), expected)
        self.assertTrue({1, 7, 8, 168} <= sizes)

    def test_merged_states(self):
        three = rows_device(3, 3)
        rows = plain_free_rows(3, 3)
        opposites = [rows.index(tuple(-item % 3 for item in row)) for row in rows]
        lots = sorted({tuple(sorted((state, other))) for state, other in enumerate(opposites)})
        self.assertEqual(kinds(merged(three, lots)), ("more",))
        self.assertEqual(kinds(merged(lines_device(3, 2), [tuple(range(7))])), ("one",))
        both = beside(planes_device(3, 2), lines_device(3, 2))
        self.assertEqual(kinds(piece_of(both, tuple(range(7, 14)))), ("points",))

    def test_two_rows(self):
        for device in (lines_device(2, 2), still(2, 1), lines_device(2, 7)):
            with self.assertRaises(BadDevice):
                kinds(device)


class SpeedTest(unittest.TestCase):
    def test_two_hundred_states(self):
        device = few_device("one")
        while device.size + 15 <= 200:
            device = beside(beside(device, few_device("eight")), few_device("planes"))
        start = time.process_time()
        kinds(renamed(device, mixed(device.size, 1)))
        kinds(still(3, 200))
        self.assertLess(time.process_time() - start, 1)


if __name__ == "__main__":
    unittest.main()
