"""[2.5], [2.6], [2.7] and [2.8]."""

import copy
import time
import unittest
from itertools import permutations, product

from rowsteps.device import Device
from rowsteps.errors import BadDevice, BadLot, TooLarge
from rowsteps.made import cosets_device, lines_device, planes_device, rows_device
from rowsteps.parted import beside, likeness, merged, paired, piece_of, pieces, renamed
from tests.devicesamples import (
    SAMPLES, SMALL_SAMPLES, back, mixed, moves_of, plain_free_rows, plain_least, still, two_rows,
)
from tests.samples import BIG, FEW, WRONG_KINDS, all_places

THREES = beside(lines_device(3, 2), beside(still(3, 2), planes_device(3, 2)))
TWOS = beside(still(2, 1), beside(lines_device(2, 2), rows_device(2, 2)))


def plain_pieces(device):
    """Join the states that one step joins, until nothing changes."""
    lots = [{state} for state in range(device.size)]
    for i, j in all_places(device.n):
        for state, goal in enumerate(device.move(i, j)):
            one = next(lot for lot in lots if state in lot)
            other = next(lot for lot in lots if goal in lot)
            if one is not other:
                lots.remove(other)
                one |= other
    return sorted(tuple(sorted(lot)) for lot in lots)


def plain_renamed(device, order):
    """The exchanges of a device in which each state s is named order[s]."""
    moves = {}
    for (i, j), move in moves_of(device).items():
        named = {order[state]: order[goal] for state, goal in enumerate(move)}
        moves[(i, j)] = tuple(named[state] for state in range(device.size))
    return moves


def wrong_lots(device):
    """Values that are no ascending tuples of states; the device has at least three."""
    size = device.size
    return WRONG_KINDS + [
        (), [0], [0, 1, 2], list(range(size)), range(size), {0: 0}, {0, 1}, "012", (1, 0), (0, 2, 1), (0, 0), (0, 1, 1),
        (size,), (-1,), (-1, 0), tuple(range(size + 1)), tuple(range(-1, size)), (0, size), (BIG,), (True,), (False,),
        (False, 1), (0, True), (0.0,), (0, 1.0), ("0",), (None,), ((0,),), ([0],), tuple(reversed(range(size))),
    ]


class PiecesTest(unittest.TestCase):
    def test_told(self):
        self.assertEqual(pieces(TWOS), [(0,), (1, 2, 3), (4, 5, 6)])
        self.assertEqual(pieces(THREES), [tuple(range(7)), (7,), (8,), tuple(range(9, 16))])
        self.assertEqual(pieces(still(2, 3)), [(0,), (1,), (2,)])
        self.assertEqual(pieces(renamed(TWOS, (5, 6, 2, 0, 4, 1, 3))), [(0, 2, 6), (1, 3, 4), (5,)])

    def test_all(self):
        for name, device in SAMPLES.items():
            with self.subTest(name=name):
                found = pieces(device)
                self.assertEqual(found, plain_pieces(device))
                self.assertIs(type(found), list)
                self.assertEqual([type(piece) for piece in found], [tuple] * len(found))

    def test_renamed(self):
        for name, device in SMALL_SAMPLES.items():
            for seed in range(3):
                with self.subTest(name=name, seed=seed):
                    other = renamed(device, mixed(device.size, seed))
                    self.assertEqual(pieces(other), plain_pieces(other))

    def test_tables_lead_within_pieces(self):
        for device in SMALL_SAMPLES.values():
            for piece in pieces(device):
                for table in FEW[device.n][::40]:
                    self.assertEqual(sorted(device.act(table, state) for state in piece), list(piece))

    def test_a_returned_list_may_be_changed(self):
        found = pieces(TWOS)
        found.clear()
        pieces(TWOS).reverse()
        self.assertEqual(pieces(TWOS), [(0,), (1, 2, 3), (4, 5, 6)])


class PieceOfTest(unittest.TestCase):
    def test_told(self):
        self.assertEqual(moves_of(piece_of(TWOS, (1, 2, 3))), moves_of(lines_device(2, 2)))
        self.assertEqual(moves_of(piece_of(TWOS, (0,))), moves_of(still(2, 1)))
        self.assertEqual(moves_of(piece_of(THREES, tuple(range(9, 16)))), moves_of(planes_device(3, 2)))
        self.assertEqual(moves_of(piece_of(THREES, (7, 8))), moves_of(still(3, 2)))
        self.assertEqual(moves_of(piece_of(TWOS, (0, 4, 5, 6))),
                         moves_of(beside(still(2, 1), rows_device(2, 2))))

    def test_all_lots_of_pieces(self):
        for name, device in SMALL_SAMPLES.items():
            other = renamed(device, mixed(device.size, 3))
            found = pieces(other)
            for at in range(len(found)):
                for lot in (found[at], tuple(sorted(found[at] + found[0])) if at else found[0],
                            tuple(sorted(state for piece in found[at:] for state in piece))):
                    part = piece_of(other, lot)
                    with self.subTest(name=name, lot=lot):
                        self.assertIs(type(part), Device)
                        self.assertEqual((part.n, part.size), (other.n, len(lot)))
                        for i, j in all_places(other.n):
                            for state, goal in enumerate(part.move(i, j)):
                                self.assertEqual(lot[goal], other.move(i, j)[lot[state]])

    def test_a_step_leads_out(self):
        for device in (TWOS, THREES, SAMPLES["twelve"], SAMPLES["rows 2 6"]):
            found = [set(piece) for piece in pieces(device)]
            for low, high in product(range(device.size), range(1, device.size + 1)):
                lot = tuple(range(low, high))
                if lot and any(piece & set(lot) and piece - set(lot) for piece in found):
                    with self.subTest(lot=lot), self.assertRaises(BadLot):
                        piece_of(device, lot)
                elif lot:
                    self.assertEqual(piece_of(device, lot).size, len(lot))

    def test_only_the_other_step_leads_out(self):
        device = lines_device(2, 2)
        for lot in ((0, 2), (1, 2), (0,), (1,), (2,), (0, 1)):
            with self.subTest(lot=lot), self.assertRaises(BadLot):
                piece_of(device, lot)

    def test_no_lot(self):
        for device in (TWOS, THREES, still(2, 3), still(3, 200)):
            for at, value in enumerate(wrong_lots(device)):
                with self.subTest(at=at), self.assertRaises(BadLot):
                    piece_of(device, value)

    def test_the_whole_is_a_new_device(self):
        for device in (TWOS, still(3, 1)):
            whole = piece_of(device, tuple(range(device.size)))
            self.assertIsNot(whole, device)
            self.assertEqual(moves_of(whole), moves_of(device))


class MergedTest(unittest.TestCase):
    def test_rows_become_lines(self):
        for n, N in ((2, 3), (2, 5), (2, 8), (2, 12), (2, 16), (3, 2), (3, 3), (3, 4), (3, 6)):
            rows = plain_free_rows(n, N)
            least = [plain_least(N, row) for row in rows]
            lots = [tuple(at for at, row in enumerate(least) if row == line) for line in sorted(set(least))]
            found = merged(rows_device(n, N), lots)
            with self.subTest(n=n, N=N):
                self.assertIs(type(found), Device)
                self.assertEqual(moves_of(found), moves_of(lines_device(n, N)))

    def test_the_order_of_the_lots_is_that_of_the_states(self):
        rows = plain_free_rows(2, 3)
        lots = [tuple(at for at, row in enumerate(rows) if plain_least(3, row) == line)
                for line in ((1, 2), (0, 1), (1, 1), (1, 0))]
        found = merged(rows_device(2, 3), lots)
        lines = lines_device(2, 3)
        names = {0: 1, 1: 3, 2: 2, 3: 0}
        for i, j in all_places(2):
            for state, goal in enumerate(lines.move(i, j)):
                self.assertEqual(found.move(i, j)[names[state]], names[goal])

    def test_single_states_and_whole_pieces(self):
        for name, device in SMALL_SAMPLES.items():
            with self.subTest(name=name):
                alone = [(state,) for state in range(device.size)]
                self.assertEqual(moves_of(merged(device, alone)), moves_of(device))
                self.assertIsNot(merged(device, alone), device)
                whole = merged(device, pieces(device))
                self.assertEqual(moves_of(whole), moves_of(still(device.n, len(pieces(device)))))
                order = mixed(device.size, 9)
                self.assertEqual(moves_of(merged(device, [(state,) for state in back(order)])),
                                 plain_renamed(device, order))

    def test_members_of_several_pieces(self):
        doubled = beside(lines_device(2, 4), lines_device(2, 4))
        self.assertEqual(moves_of(merged(doubled, [(state, state + 6) for state in range(6)])),
                         moves_of(lines_device(2, 4)))
        with self.assertRaises(BadLot):
            merged(doubled, [(0, 7), (1, 6), (2, 8), (3, 9), (4, 10), (5, 11)])

    def test_a_step_parts_a_lot(self):
        device = SAMPLES["twelve"]
        for many in (2, 3, 4, 6):
            lots = [tuple(range(at, 12, many)) for at in range(many)]
            self.assertEqual(merged(device, lots).size, many)
            with self.assertRaises(BadLot):
                merged(device, [tuple(range(at * (12 // many), (at + 1) * (12 // many))) for at in range(many)])
        for device in (lines_device(2, 2), lines_device(3, 2), lines_device(2, 3)):
            states = range(device.size)
            for pair in product(states, repeat=2):
                if pair[0] < pair[1]:
                    with self.subTest(pair=pair), self.assertRaises(BadLot):
                        merged(device, [pair] + [(state,) for state in states if state not in pair])

    def test_not_each_state_once(self):
        device = still(2, 4)
        for lots in ([], [(0, 1, 2)], [(0,), (1,), (2,)], [(0, 1), (1, 2, 3)], [(0, 1, 2, 3), (0,)], [(0, 1), (2,)],
                     [(0, 1, 2, 3)] * 2, [(0, 1), (2, 3), (4,)], [(0, 1), (2, 2, 3)], [(0,), (0,), (1,), (2,)],
                     [(0, 1), (0, 2), (3,)], [(1, 2, 3), (-1,)]):
            with self.subTest(lots=lots), self.assertRaises(BadLot):
                merged(device, lots)

    def test_wrong_values(self):
        for device in (still(2, 3), still(3, 3), TWOS):
            rest = [(state,) for state in range(1, device.size)]
            self.assertEqual(merged(still(2, device.size), [(0,)] + rest).size, device.size)
            for at, value in enumerate(wrong_lots(device)):
                with self.subTest(at=at):
                    with self.assertRaises(BadLot):
                        merged(device, [value] + rest)
                    with self.assertRaises(BadLot):
                        merged(device, [(0,)] + rest + [value])
                    if not isinstance(value, list):
                        with self.assertRaises(BadLot):
                            merged(device, value)
            for value in (tuple([(0,)] + rest), {(state,): 1 for state in range(device.size)}, [0, 1, 2],
                          [[0], [1], [2]], iter([(0,)] + rest), [(0,), [1], (2,)], [(0, 2, 1)], [(1, 0), (2,)],
                          [[(0,)] + rest]):
                with self.subTest(value=value), self.assertRaises(BadLot):
                    merged(device, value)

    def test_an_empty_lot(self):
        for lots in ([()], [(0,), ()], [(), (0,)]):
            with self.assertRaises(BadLot):
                merged(still(2, 1), lots)

    def test_the_list_is_left_as_it_was_and_may_be_changed(self):
        lots = [(2,), (0,), (1,)]
        before = copy.deepcopy(lots)
        found = merged(lines_device(2, 2), lots)
        moves = moves_of(found)
        self.assertEqual(lots, before)
        lots.reverse()
        lots.pop()
        self.assertEqual(moves_of(found), moves)
        self.assertEqual(found.exchange(((1, 1), (0, 1))), moves[(0, 1)])


class RenamedTest(unittest.TestCase):
    def test_told(self):
        found = renamed(lines_device(2, 2), (1, 2, 0))
        self.assertEqual(moves_of(found), {(0, 1): (1, 0, 2), (1, 0): (2, 1, 0)})

    def test_all(self):
        for name, device in SAMPLES.items():
            for seed in range(2):
                order = mixed(device.size, seed)
                found = renamed(device, order)
                with self.subTest(name=name, seed=seed):
                    self.assertIs(type(found), Device)
                    self.assertEqual(moves_of(found), plain_renamed(device, order))
                    self.assertEqual((found.n, found.size, found.round), (device.n, device.size, device.round))
                    self.assertEqual(moves_of(renamed(found, back(order))), moves_of(device))

    def test_tables_lead_to_the_new_names(self):
        device = SAMPLES["rows 2 6"]
        order = mixed(device.size, 5)
        found = renamed(device, order)
        for table in FEW[2]:
            for state in range(device.size):
                self.assertEqual(found.act(table, order[state]), order[device.act(table, state)])

    def test_the_same_names_make_a_new_device(self):
        device = lines_device(2, 2)
        self.assertIsNot(renamed(device, (0, 1, 2)), device)
        self.assertEqual(moves_of(renamed(device, (0, 1, 2))), moves_of(device))

    def test_no_order(self):
        for device in (lines_device(2, 2), still(3, 3)):
            for value in ((), (0,), (0, 1), (0, 1, 1), (1, 2, 3), (0, 1, 3), (-1, 0, 1), (0, 1, 2, 3), (2, 2, 2),
                          [0, 1, 2], [2, 1, 0], [], [0], [0, 0, 0], (0, True, 2), (False, 1, 2), (0, 1, BIG),
                          [0, 1, BIG], [True, False, 2]):
                with self.subTest(value=value), self.assertRaises(BadLot):
                    renamed(device, value)


class LikenessTest(unittest.TestCase):
    def test_told(self):
        lines, planes = lines_device(3, 2), planes_device(3, 2)
        self.assertIsNone(likeness(lines, planes))
        self.assertIsNone(likeness(planes, lines))
        self.assertEqual(likeness(lines, lines), tuple(range(7)))
        self.assertEqual(likeness(lines_device(2, 2), renamed(lines_device(2, 2), (1, 2, 0))), (1, 2, 0))
        self.assertIsNotNone(likeness(lines_device(2, 5), planes_device(2, 5)))

    def test_other_numbers(self):
        self.assertIsNone(likeness(still(2, 1), still(3, 1)))
        self.assertIsNone(likeness(still(3, 4), still(2, 4)))
        self.assertIsNone(likeness(still(2, 4), still(2, 5)))
        self.assertIsNone(likeness(still(2, 5), still(2, 4)))
        self.assertIsNone(likeness(still(3, 7), lines_device(3, 2)))
        self.assertIsNone(likeness(lines_device(3, 2), still(3, 7)))

    def test_the_least_one_of_all(self):
        few = [still(2, 1), still(2, 2), still(2, 5), lines_device(2, 2), lines_device(2, 3), lines_device(2, 4),
               lines_device(2, 5), cosets_device(2, 2, []), beside(still(2, 2), lines_device(2, 2)),
               beside(lines_device(2, 2), still(2, 3)), beside(lines_device(2, 2), lines_device(2, 2)),
               beside(still(2, 1), lines_device(2, 4)), beside(lines_device(2, 3), still(2, 2)),
               two_rows(5, 1), two_rows(6, 2), two_rows(6, 3)]
        for first, second in product(few, repeat=2):
            for seed in range(2):
                other = renamed(second, mixed(second.size, seed))
                expected = None
                if first.size == other.size:
                    goal = moves_of(other)
                    expected = next((order for order in permutations(range(first.size))
                                     if all(goal[pair][order[0]] == order[move[0]]
                                            for pair, move in moves_of(first).items())
                                     and plain_renamed(first, order) == goal), None)
                found = likeness(first, other)
                self.assertEqual(found, expected)
                if found is not None:
                    self.assertIs(type(found), tuple)

    def test_a_large_piece_is_not_laid_over_small_ones(self):
        six, three = cosets_device(2, 2, []), lines_device(2, 2)
        self.assertIsNone(likeness(six, beside(three, three)))
        self.assertIsNone(likeness(beside(three, three), six))
        self.assertEqual(likeness(beside(six, three), beside(three, six)), (3, 4, 5, 6, 7, 8, 0, 1, 2))
        self.assertIsNone(likeness(beside(six, beside(three, three)), beside(six, six)))
        self.assertIsNone(likeness(beside(six, six), beside(beside(three, three), six)))

    def test_pieces_in_another_order(self):
        first = beside(lines_device(3, 2), beside(planes_device(3, 2), lines_device(3, 2)))
        second = beside(planes_device(3, 2), beside(lines_device(3, 2), lines_device(3, 2)))
        self.assertEqual(likeness(first, second), tuple(range(7, 14)) + tuple(range(7)) + tuple(range(14, 21)))
        self.assertIsNone(likeness(first, beside(first, still(3, 1))))
        third = beside(lines_device(3, 2), beside(planes_device(3, 2), planes_device(3, 2)))
        self.assertIsNone(likeness(second, third))

    def test_renamed_devices(self):
        for name, device in SAMPLES.items():
            for seed in range(2):
                order = mixed(device.size, seed + 20)
                other = renamed(device, order)
                found = likeness(device, other)
                with self.subTest(name=name, seed=seed):
                    self.assertEqual(plain_renamed(device, found), moves_of(other))
                    self.assertLessEqual(found, order)
                    self.assertEqual(plain_renamed(other, likeness(other, device)), moves_of(device))

    def test_many_pieces_that_are_alike(self):
        self.assertEqual(likeness(still(2, 200), still(2, 200)), tuple(range(200)))
        thirty = still(2, 1)
        for _ in range(30):
            thirty = beside(thirty, lines_device(2, 4))
        other = renamed(thirty, mixed(thirty.size, 4))
        found = likeness(thirty, other)
        self.assertEqual(plain_renamed(thirty, found), moves_of(other))
        firsts = [found[1 + 6 * at] for at in range(30)]
        self.assertEqual(firsts, sorted(firsts))

    def test_against_itself(self):
        for device in SAMPLES.values():
            self.assertEqual(likeness(device, device), tuple(range(device.size)))


class BesideTest(unittest.TestCase):
    def test_all(self):
        for first, second in product(SMALL_SAMPLES.values(), repeat=2):
            if first.n == second.n:
                found = beside(first, second)
                self.assertEqual((found.n, found.size), (first.n, first.size + second.size))
                for i, j in all_places(first.n):
                    raised = tuple(first.size + goal for goal in second.move(i, j))
                    self.assertEqual(found.move(i, j), first.move(i, j) + raised)

    def test_told(self):
        found = beside(lines_device(2, 2), still(2, 2))
        self.assertEqual(moves_of(found), {(0, 1): (2, 1, 0, 3, 4), (1, 0): (0, 2, 1, 3, 4)})
        found = beside(still(2, 2), lines_device(2, 2))
        self.assertEqual(moves_of(found), {(0, 1): (0, 1, 4, 3, 2), (1, 0): (0, 1, 2, 4, 3)})

    def test_numbers_of_states(self):
        self.assertEqual(beside(still(2, 1), still(2, 199)).size, 200)
        self.assertEqual(beside(still(3, 100), still(3, 100)).size, 200)
        for first, second in ((1, 200), (200, 1), (100, 101), (200, 200)):
            for n in (2, 3):
                with self.assertRaises(TooLarge):
                    beside(still(n, first), still(n, second))

    def test_other_numbers_of_rows_come_first(self):
        for first, second in ((1, 1), (3, 4), (200, 200), (1, 200)):
            with self.assertRaises(BadDevice):
                beside(still(2, first), still(3, second))
            with self.assertRaises(BadDevice):
                beside(still(3, first), still(2, second))


class PairedTest(unittest.TestCase):
    def test_all(self):
        for first, second in product(SMALL_SAMPLES.values(), repeat=2):
            if first.n == second.n and first.size * second.size <= 200:
                found = paired(first, second)
                self.assertEqual((found.n, found.size), (first.n, first.size * second.size))
                for i, j in all_places(first.n):
                    for a, b in product(range(first.size), range(second.size)):
                        goal = first.move(i, j)[a] * second.size + second.move(i, j)[b]
                        self.assertEqual(found.move(i, j)[a * second.size + b], goal)

    def test_told(self):
        found = paired(lines_device(2, 2), still(2, 2))
        self.assertEqual(moves_of(found), {(0, 1): (4, 5, 2, 3, 0, 1), (1, 0): (0, 1, 4, 5, 2, 3)})
        found = paired(still(2, 2), lines_device(2, 2))
        self.assertEqual(moves_of(found), {(0, 1): (2, 1, 0, 5, 4, 3), (1, 0): (0, 2, 1, 3, 5, 4)})
        self.assertEqual(pieces(paired(lines_device(2, 2), lines_device(2, 2))), [(0, 4, 8), (1, 2, 3, 5, 6, 7)])

    def test_numbers_of_states(self):
        for first, second in ((1, 200), (200, 1), (10, 20), (2, 100)):
            for n in (2, 3):
                self.assertEqual(paired(still(n, first), still(n, second)).size, 200)
        for first, second in ((3, 67), (67, 3), (2, 101), (15, 14), (200, 200), (200, 2)):
            for n in (2, 3):
                with self.assertRaises(TooLarge):
                    paired(still(n, first), still(n, second))

    def test_other_numbers_of_rows_come_first(self):
        for first, second in ((1, 1), (3, 4), (200, 200), (1, 200)):
            with self.assertRaises(BadDevice):
                paired(still(2, first), still(3, second))
            with self.assertRaises(BadDevice):
                paired(still(3, first), still(2, second))


class UnchangedTest(unittest.TestCase):
    def test_devices_are_left_as_they_were(self):
        first, second = rows_device(2, 3), lines_device(2, 4)
        moves = moves_of(first), moves_of(second)
        beside(first, second)
        paired(first, second)
        likeness(first, second)
        likeness(first, first)
        pieces(first)
        renamed(first, mixed(8, 2))
        merged(first, [tuple(range(8))])
        piece_of(first, tuple(range(8)))
        self.assertEqual((moves_of(first), moves_of(second)), moves)
        self.assertEqual((first.n, first.size, first.round), (2, 8, 3))


class SpeedTest(unittest.TestCase):
    def test_likeness_of_large_devices(self):
        names = ("two rows 200 6", "two rows 200 9", "double 100 3", "lines 3 13", "still 200", "rows 2 16")
        pairs = [(SAMPLES[name], renamed(SAMPLES[name], mixed(SAMPLES[name].size, 3))) for name in names]
        pairs.append((lines_device(3, 13), planes_device(3, 13)))
        for first, second in pairs:
            start = time.process_time()
            likeness(first, second)
            pieces(second)
            self.assertLess(time.process_time() - start, 1)

    def test_paired_large(self):
        start = time.process_time()
        found = paired(lines_device(3, 3), beside(lines_device(3, 3), still(3, 2)))
        self.assertEqual(found.size, 195)
        self.assertLess(time.process_time() - start, 1)


if __name__ == "__main__":
    unittest.main()
