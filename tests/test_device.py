"""[2.1], [2.2], [2.3], [2.4], and what [2.13] says of the exchanges of a device."""

import time
import unittest
from itertools import permutations, product

from rowsteps.device import Device
from rowsteps.errors import BadDevice, BadPlace, BadState, BadTable
from rowsteps.made import lines_device, rows_device
from rowsteps.words import word_of
from tests.devicesamples import (
    NO_ORDER, SAMPLES, SMALL_SAMPLES, back, broken_rules, mixed, moves_of, moves_of_turns, in_rounds, plain_act,
    plain_free_rows, plain_joined, plain_led, plain_order, plain_power, still, two_rows,
)
from tests.samples import (
    BIG, FEW, LARGE, WRONG_KINDS, WRONG_SIZES, WRONG_TABLES, all_places, mixed_word, plain_identity, plain_product,
    plain_step, plain_times, wrong_pairs,
)

THREE = {(0, 1): (2, 1, 0), (1, 0): (0, 2, 1)}


def still_moves(n, size):
    return {pair: tuple(range(size)) for pair in all_places(n)}


class MadeTest(unittest.TestCase):
    def assert_refused(self, n, moves):
        with self.assertRaises(BadDevice):
            Device(n, moves)

    def test_the_example_of_the_document(self):
        device = Device(2, THREE)
        self.assertEqual((device.n, device.size, device.round), (2, 3, 2))
        self.assertEqual(device.move(0, 1), (2, 1, 0))
        self.assertEqual(device.move(1, 0), (0, 2, 1))
        self.assertEqual(moves_of(lines_device(2, 2)), THREE)

    def test_attributes(self):
        for name, device in SAMPLES.items():
            with self.subTest(name=name):
                self.assertIs(type(device.n), int)
                self.assertIs(type(device.size), int)
                self.assertIs(type(device.round), int)
                self.assertEqual(device.size, len(device.move(0, 1)))
                self.assertEqual(sorted(vars(Device(device.n, moves_of(device)))), sorted(vars(device)))

    def test_the_samples_keep_the_rules(self):
        for name, device in SAMPLES.items():
            with self.subTest(name=name):
                self.assertEqual(broken_rules(device.n, moves_of(device)), [])

    def test_the_round_is_that_of_each_pair(self):
        for name, device in SMALL_SAMPLES.items():
            with self.subTest(name=name):
                for i, j in all_places(device.n):
                    self.assertEqual(device.round, plain_order(device.move(i, j)))
        self.assertEqual(SAMPLES["twelve"].round, 12)
        self.assertEqual(SAMPLES["one of two"].round, 1)
        self.assertEqual(SAMPLES["one of three"].round, 1)
        self.assertEqual(SAMPLES["still 200"].round, 1)
        self.assertEqual(SAMPLES["lines 2 60"].round, 60)
        self.assertEqual(SAMPLES["beside"].round, 6)

    def test_a_round_of_many_rounds(self):
        device = Device(2, moves_of_turns(in_rounds(200, 2, 90, 1), in_rounds(200, 3, 60, 2)))
        lengths = set()
        for state in range(200):
            length, now = 1, device.move(0, 1)[state]
            while now != state:
                length, now = length + 1, device.move(0, 1)[now]
            lengths.add(length)
        self.assertTrue(all(device.round % length == 0 for length in lengths))
        for p in (2, 3, 5, 7, 11, 13):
            if device.round % p == 0:
                self.assertFalse(all(device.round // p % length == 0 for length in lengths))

    def test_the_exchanges_as_given(self):
        for name, device in SAMPLES.items():
            moves = moves_of(device)
            again = Device(device.n, moves)
            with self.subTest(name=name):
                self.assertEqual(moves_of(again), moves)
                self.assertEqual((again.n, again.size, again.round), (device.n, device.size, device.round))
                for move in moves.values():
                    self.assertIs(type(move), tuple)

    def test_by_keywords(self):
        device = Device(n=2, moves=THREE)
        self.assertEqual(device.move(i=0, j=1), (2, 1, 0))
        self.assertEqual(device.act(table=((1, 1), (0, 1)), state=0), 2)
        self.assertEqual(device.exchange(table=((1, 0), (1, 1))), (0, 2, 1))

    def test_the_dict_may_be_changed_afterwards(self):
        moves = dict(THREE)
        device = Device(2, moves)
        self.assertEqual(moves, THREE)
        moves[(0, 1)] = (0, 1, 2)
        moves[(0, 2)] = None
        del moves[(1, 0)]
        self.assertEqual(moves_of(device), THREE)
        self.assertEqual(device.exchange(((1, 1), (0, 1))), (2, 1, 0))
        self.assertEqual(device.exchange(((0, 1), (-1, 0))), (1, 0, 2))
        moves.clear()
        self.assertEqual(device.act(((1, 0), (1, 1)), 1), 2)

    def test_numbers_of_states(self):
        for n in (2, 3):
            for size in (1, 2, 199, 200):
                self.assertEqual(Device(n, still_moves(n, size)).size, size)
            for size in (0, 201, 202, 1000):
                self.assert_refused(n, still_moves(n, size))

    def test_wrong_numbers_of_rows(self):
        for n in WRONG_SIZES + [None, 2.0, "2", (2,)]:
            for moves in (THREE, still_moves(3, 2), still_moves(2, 1), {}):
                with self.subTest(n=n):
                    self.assert_refused(n, moves)
        self.assert_refused(2, still_moves(3, 4))
        self.assert_refused(3, still_moves(2, 4))

    def test_wrong_keys(self):
        for n in (2, 3):
            for size in (1, 3):
                right = still_moves(n, size)
                for pair in right:
                    without = {key: right[key] for key in right if key != pair}
                    self.assert_refused(n, without)
                    for key in ((0, 0), (1, 1), (n, 0), (0, n), (-1, 0), (0, 1, 2), (0,), (), 0, None, "01", b"01",
                                (None, None), ("0", "1"), frozenset((0, 1)), ((0, 1),), True, 1.0):
                        self.assert_refused(n, {**without, key: right[pair]})
                        self.assert_refused(n, {**right, key: right[pair]})
        self.assert_refused(2, {})
        self.assert_refused(3, {})

    def test_no_dict(self):
        for n in (2, 3):
            pairs = all_places(n)
            for moves in (None, [], pairs, tuple(pairs), set(pairs), [(pair, (0,)) for pair in pairs], "", 0):
                self.assert_refused(n, moves)

    def test_true_and_false_are_no_places(self):
        for n in (2, 3):
            right = still_moves(n, 2)
            for pair, key in (((0, 1), (False, 1)), ((0, 1), (0, True)), ((1, 0), (True, False)), ((1, 0), (1.0, 0))):
                self.assert_refused(n, {**{other: right[other] for other in right if other != pair}, key: right[pair]})

    def test_values_that_are_no_exchanges(self):
        for n in (2, 3):
            for size in (1, 2, 3):
                for pair in all_places(n):
                    for value in WRONG_KINDS:
                        self.assert_refused(n, {**still_moves(n, size), pair: value})
                    for value in ([0], [0, 1], [0, 1, 2], (), (1,), (-1,), (0, 0), (1, 2), (0, 1, 1), (0, 1, 3),
                                  (0, -1, 2), (0, 1, "2"), (0.0, 1, 2), (False,), (False, True), (0, True),
                                  (False, 1, 2), (0, True, 2), (0, 1, 2, 3), range(1), range(3), {0: 0}, "012", b"\x00",
                                  (BIG,), (0, BIG, 1), ((0,),), (0, (1,), 2)):
                        self.assert_refused(n, {**still_moves(n, size), pair: value})
        for value in WRONG_KINDS + [[0, 1], (0, 0), (1, 2), (False, True)]:
            self.assert_refused(2, {(0, 1): value, (1, 0): value})

    def test_exchanges_of_unlike_numbers_of_states(self):
        for n in (2, 3):
            for pair in all_places(n):
                self.assert_refused(n, {**still_moves(n, 3), pair: (0, 1)})
                self.assert_refused(n, {**still_moves(n, 3), pair: (0, 1, 2, 3)})
                self.assert_refused(n, {**still_moves(n, 200), pair: tuple(range(201))})

    def test_every_pair_of_small_exchanges(self):
        for size in (1, 2, 3, 4):
            kept = 0
            for there, other in product(permutations(range(size)), repeat=2):
                moves = {(0, 1): there, (1, 0): other}
                if broken_rules(2, moves):
                    self.assert_refused(2, moves)
                else:
                    self.assertEqual(moves_of(Device(2, moves)), moves)
                    kept += 1
            self.assertGreaterEqual(kept, size)

    def test_one_rule_of_two_rows_does_not_hold(self):
        for size in (5, 7, 8, 24, 200):
            there = tuple((state + 1) % size for state in range(size))
            moves = {(0, 1): there, (1, 0): back(there)}
            self.assertEqual(broken_rules(2, moves), ["turn"])
            self.assert_refused(2, moves)
        for moves in ({(0, 1): (1, 0), (1, 0): (0, 1)}, {(0, 1): (0, 1, 2), (1, 0): (1, 0, 2)}):
            self.assertEqual(broken_rules(2, moves), ["both"])
            self.assert_refused(2, moves)

    def test_one_sum_of_three_rows_does_not_hold(self):
        for size, exchange in ((2, (1, 0)), (4, (1, 0, 3, 2)), (4, (1, 2, 3, 0)), (200, in_rounds(200, 4, 30, 5))):
            for pair in all_places(3):
                moves = {**still_moves(3, size), pair: exchange}
                self.assertEqual([rule[0] for rule in broken_rules(3, moves)], ["sum"])
                self.assert_refused(3, moves)

    def test_the_order_of_three_rows_means_something(self):
        self.assertEqual({rule[0] for rule in broken_rules(3, NO_ORDER)}, {"order"})
        self.assert_refused(3, NO_ORDER)
        for order in permutations(range(3)):
            self.assert_refused(3, {(order[i], order[j]): move for (i, j), move in NO_ORDER.items()})

    def test_exchanges_the_wrong_way_round(self):
        moves = moves_of(SAMPLES["lines 3 3"])
        self.assertEqual(broken_rules(3, moves), [])
        self.assert_refused(3, {pair: back(move) for pair, move in moves.items()})
        self.assert_refused(3, {(j, i): move for (i, j), move in moves.items()})
        Device(3, {(j, i): back(move) for (i, j), move in moves.items()})

    def test_one_exchange_changed(self):
        for name, device in SMALL_SAMPLES.items():
            moves = moves_of(device)
            if device.size > 1:
                for pair in moves:
                    for at in range(device.size):
                        changed = list(moves[pair])
                        changed[at], changed[at - 1] = changed[at - 1], changed[at]
                        wrong = {**moves, pair: tuple(changed)}
                        with self.subTest(name=name, pair=pair, at=at):
                            if broken_rules(device.n, wrong):
                                self.assert_refused(device.n, wrong)
                            else:
                                self.assertEqual(moves_of(Device(device.n, wrong)), wrong)


class MoveTest(unittest.TestCase):
    def test_wrong_pairs(self):
        for device in (SAMPLES["one of two"], SAMPLES["lines 2 4"], SAMPLES["one of three"], SAMPLES["lines 3 2"]):
            for i, j in wrong_pairs(device.n):
                with self.subTest(n=device.n, i=i, j=j), self.assertRaises(BadPlace):
                    device.move(i, j)

    def test_a_pair_of_three_rows_is_none_of_two(self):
        for i, j in ((0, 2), (2, 0), (1, 2), (2, 1)):
            self.assertEqual(len(SAMPLES["lines 3 2"].move(i, j)), 7)
            with self.assertRaises(BadPlace):
                SAMPLES["lines 2 4"].move(i, j)


class ActTest(unittest.TestCase):
    def test_a_step_does_its_exchange(self):
        for name, device in SAMPLES.items():
            for i, j in all_places(device.n):
                with self.subTest(name=name, i=i, j=j):
                    self.assertEqual(device.exchange(plain_step(device.n, i, j, 1)), device.move(i, j))
                    self.assertEqual(device.exchange(plain_step(device.n, i, j, -1)), back(device.move(i, j)))
                    self.assertEqual(device.exchange(plain_step(device.n, i, j, device.round)),
                                     tuple(range(device.size)))

    def test_the_identity_does_nothing(self):
        for device in SAMPLES.values():
            self.assertEqual(device.exchange(plain_identity(device.n)), tuple(range(device.size)))

    def test_steps_of_any_size(self):
        for name, device in SAMPLES.items():
            for k in (2, -3, 7, BIG, -BIG, 10 ** 40 + 7):
                for i, j in all_places(device.n):
                    with self.subTest(name=name, k=k, i=i, j=j):
                        table = plain_step(device.n, i, j, k)
                        if device.round <= 60:
                            self.assertEqual(device.exchange(table),
                                             plain_power(device.move(i, j), k % device.round))
                        for state in range(0, device.size, 17):
                            self.assertEqual(device.act(table, state), device.exchange(table)[state])

    def test_products_of_steps_step_by_step(self):
        for name, device in SMALL_SAMPLES.items():
            for seed in range(12):
                word = mixed_word(device.n, 3 + seed, seed + 50, 4)
                table = plain_product(device.n, word)
                with self.subTest(name=name, seed=seed):
                    found = device.exchange(table)
                    self.assertIs(type(found), tuple)
                    self.assertEqual(found, tuple(plain_act(device, word, state) for state in range(device.size)))
                    for state in range(device.size):
                        self.assertIs(type(device.act(table, state)), int)
                        self.assertEqual(device.act(table, state), found[state])

    def test_large_devices_step_by_step(self):
        for name, device in SAMPLES.items():
            word = mixed_word(device.n, 9, 77, 3)
            table = plain_product(device.n, word)
            with self.subTest(name=name):
                for state in range(0, device.size, 13):
                    self.assertEqual(device.act(table, state), plain_act(device, word, state))

    def test_the_second_factor_acts_first(self):
        for name, device in SMALL_SAMPLES.items():
            few = FEW[device.n][1::9]
            for first, second in zip(few, few[1:]):
                with self.subTest(name=name):
                    both = plain_times(first, second)
                    self.assertEqual(device.exchange(both),
                                     plain_joined(device.exchange(first), device.exchange(second)))
                    for state in range(0, device.size, 5):
                        self.assertEqual(device.act(both, state), device.act(first, device.act(second, state)))
        device = Device(2, THREE)
        self.assertEqual(device.exchange(((2, 1), (1, 1))), (2, 0, 1))
        self.assertEqual(device.exchange(((1, 1), (1, 2))), (1, 2, 0))

    def test_the_opposite_of_the_identity(self):
        opposite = ((-1, 0), (0, -1))
        self.assertEqual(SAMPLES["double 6 0"].exchange(opposite), (6, 7, 8, 9, 10, 11, 0, 1, 2, 3, 4, 5))
        self.assertEqual(SAMPLES["two rows 24 4"].exchange(opposite), tuple(range(24)))
        self.assertEqual(SAMPLES["twelve"].exchange(opposite), (6, 7, 8, 9, 10, 11, 0, 1, 2, 3, 4, 5))

    def test_against_rows_modulo(self):
        for n, N in ((2, 2), (2, 7), (2, 16), (3, 2), (3, 3), (3, 6)):
            device = rows_device(n, N)
            rows = plain_free_rows(n, N)
            for table in FEW[n][::5] + list(LARGE[n]):
                with self.subTest(n=n, N=N):
                    expected = tuple(rows.index(plain_led(N, table, row)) for row in rows)
                    self.assertEqual(device.exchange(table), expected)
                    for state in (0, len(rows) // 2, len(rows) - 1):
                        self.assertEqual(device.act(table, state), expected[state])

    def test_no_table(self):
        for name in ("one of two", "one of three", "lines 2 4", "lines 3 2"):
            for at, value in enumerate(WRONG_TABLES):
                with self.subTest(name=name, at=at):
                    with self.assertRaises(BadTable):
                        SAMPLES[name].exchange(value)
                    with self.assertRaises(BadTable):
                        SAMPLES[name].act(value, 0)

    def test_a_table_with_another_number_of_rows(self):
        for name, n in (("one of two", 3), ("one of three", 2), ("lines 2 4", 3), ("lines 3 2", 2)):
            for table in FEW[n]:
                with self.assertRaises(BadTable):
                    SAMPLES[name].exchange(table)
                with self.assertRaises(BadTable):
                    SAMPLES[name].act(table, 0)

    def test_no_state(self):
        for name, device in SAMPLES.items():
            for state in (-1, -2, device.size, device.size + 1, 201, BIG, -BIG, True, False, None, "0", 0.0, (0,), [0]):
                with self.subTest(name=name, state=state), self.assertRaises(BadState):
                    device.act(plain_identity(device.n), state)
            self.assertEqual(device.act(plain_identity(device.n), device.size - 1), device.size - 1)

    def test_the_table_is_refused_ahead_of_the_state(self):
        for name in ("one of two", "one of three"):
            n = SAMPLES[name].n
            for value in (None, [[1, 0], [0, 1]], ((2, 0), (0, 1)), plain_identity(5 - n), (), True):
                for state in (-1, 1, True, None):
                    with self.subTest(name=name), self.assertRaises(BadTable):
                        SAMPLES[name].act(value, state)

    def test_a_way_of_writing_does_not_matter(self):
        device = two_rows(40, 8)
        for table in FEW[2][::4]:
            word = [(i, j, k % device.round) for i, j, k in word_of(table)]
            longer = [(0, 1, 3), (1, 0, -2)] + word + [(1, 0, 5), (1, 0, -5)] + [(1, 0, 1), (0, 1, -1), (1, 0, 1)] * 4
            back_again = plain_times(plain_product(2, [(0, 1, 3), (1, 0, -2)]), table)
            expected = tuple(plain_act(device, longer, state) for state in range(device.size))
            self.assertEqual(device.exchange(back_again), expected)


class SpeedTest(unittest.TestCase):
    def test_the_largest_inputs(self):
        start = time.process_time()
        for _ in range(5):
            for name in ("two rows 200 6", "double 100 3", "lines 3 13", "rows 2 16"):
                device = Device(SAMPLES[name].n, moves_of(SAMPLES[name]))
                for table in LARGE[device.n] + tuple(FEW[device.n][-3:]):
                    device.exchange(table)
        self.assertEqual(still(3, 200).exchange(LARGE[3][1]), tuple(range(200)))
        self.assertEqual(sorted(mixed(200, 1)), list(range(200)))
        self.assertLess(time.process_time() - start, 4)


if __name__ == "__main__":
    unittest.main()
