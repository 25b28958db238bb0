"""How great tables are made smaller: what the papers of [5.1] owe their shortness to."""

import unittest

from rowsteps.peeling import best_steps, length_of, nearest, peel, peeled, peeled_behind, square_with, sums_of, times_to_add
from tests.papersamples import Mixer, is_one_modulo, plain_worth
from tests.samples import BIG, plain_identity, plain_times
from tests.threesamples import TWENTY, conjugates

ONE = plain_identity(3)
OTHERS = ((1, 2), (2, 0), (0, 1))


def square(row):
    return sum(item * item for item in row)


def with_others(rows, i, x, y):
    j, k = OTHERS[i]
    return tuple(item + x * first + y * second for item, first, second in zip(rows[i], rows[j], rows[k]))


class HelpersTest(unittest.TestCase):
    def test_nearest(self):
        for divisor in (1, 2, 3, 7, 30, BIG):
            for number in [*range(-40, 41), BIG, -BIG, BIG * BIG + 1]:
                self.assertLessEqual(abs(2 * (number - divisor * nearest(number, divisor))), divisor)

    def test_length(self):
        self.assertEqual(length_of(ONE), 3)
        self.assertEqual(length_of(((1, 2, -3), (4, -7, 8), (0, 0, 255))), 1 + 2 + 2 + 3 + 3 + 4 + 8)

    def test_squares(self):
        for seed in range(20):
            mixer = Mixer(seed)
            rows = mixer.turner(3, 7, 20)
            for i in range(3):
                for x, y in ((0, 0), (1, 0), (0, -1), (3, -5), (mixer.below(99), -mixer.below(99))):
                    self.assertEqual(square_with(sums_of(rows), i, x, y), square(with_others(rows, i, x, y)))

    def test_what_is_added_makes_a_row_short(self):
        for seed in range(30):
            rows = Mixer(seed).turner(3, 9, 30)
            for i in range(3):
                one, other = times_to_add(sums_of(rows), i, False)
                both = times_to_add(sums_of(rows), i, True)
                self.assertEqual(both[:2], [one, other])
                for at, times in enumerate((one, other)):
                    for step in (-1, 1):
                        changed = (times[0] + step * (at == 0), times[1] + step * (at == 1))
                        self.assertLessEqual(square(with_others(rows, i, *times)), square(with_others(rows, i, *changed)))
                # In the plane of two rows nothing is left but halves of them at the most.
                j, k = OTHERS[i]
                height = square(with_others(rows, i, *both[2])) * (square(rows[j]) * square(rows[k]))
                self.assertLessEqual(height, square(rows[j]) * square(rows[k]) * (1 + square(rows[j]) + square(rows[k])))

    def test_the_best_steps_make_a_row_shorter(self):
        for seed in range(30):
            rows = Mixer(seed).turner(3, 9, 30)
            for is_double in (True, False):
                found = best_steps(rows, is_double)
                if found is None:
                    continue
                i, x, y = found
                gain = square(rows[i]) * 1000 // square(with_others(rows, i, x, y))
                self.assertGreaterEqual(gain, 1000)
                for other in range(3):
                    for pair in times_to_add(sums_of(rows), other, is_double):
                        left = square(with_others(rows, other, *pair))
                        self.assertLessEqual(square(rows[other]) * 1000 // left, gain)
        self.assertIsNone(best_steps(ONE, True))
        self.assertIsNone(best_steps(ONE, False))


class PeelTest(unittest.TestCase):
    def test_the_product_is_the_table(self):
        for N in (2, 6, 30):
            for seed in range(6):
                table = conjugates(N, 500 + seed, 1 + seed, 4)
                for is_double in (True, False):
                    factors, left = peeled(N, table, is_double)
                    self.assertEqual(plain_times(plain_worth(N, 3, factors), left), table)
                    factors, left = peeled_behind(N, table, is_double)
                    self.assertEqual(plain_times(left, plain_worth(N, 3, factors)), table)
                before, left, behind = peel(N, table)
                self.assertTrue(is_one_modulo(N, left))
                product = plain_times(plain_worth(N, 3, before), plain_times(left, plain_worth(N, 3, behind)))
                self.assertEqual(product, table)
                self.assertLessEqual(length_of(left), length_of(table))

    def test_few_factors_are_found_again(self):
        for N in (6, 13, 30):
            for seed in range(10):
                before, left, behind = peel(N, conjugates(N, 600 + seed, 1, 5, TWENTY))
                self.assertEqual(left, ONE)
                self.assertLess(len(before) + len(behind), 25)
                before, left, behind = peel(N, conjugates(N, 600 + seed, 2, 2, TWENTY))
                self.assertLess(length_of(left), 200)

    def test_most_of_a_great_table_is_taken_away(self):
        for N in (6, 13, 30):
            for seed in range(4):
                table = conjugates(N, 700 + seed, 6, 5, TWENTY)
                self.assertLess(2 * length_of(peel(N, table)[1]), length_of(table))

    def test_what_is_small_stays(self):
        for N in (2, 7):
            self.assertEqual(peel(N, ONE), ([], ONE, []))


if __name__ == "__main__":
    unittest.main()
