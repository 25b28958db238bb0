"""The plans by which the moves of [5.5] end, and the bound of [5.6]."""

import time
import unittest
from math import gcd

from rowsteps.descent import Column, divisors_of, nearest_rest, plan_at_once, plan_of, settled
from tests.papersamples import Mixer
from tests.samples import BIG
from tests.threesamples import divisors, told_columns


def followed(N, a, f, plan):
    """Do the moves of a plan with the numbers a and f alone."""
    for word, number in plan:
        if word == "turn":
            a += number * N * f
        elif word == "bring":
            assert (number - f) % a == 0
            f = number
        else:
            assert word in ("lend", "share") and (a - 1) // N % number == 0
            f = (f * number if word == "lend" else f * pow(number, -1, abs(a))) % abs(a)
    return a, f


def columns(N, figures, many):
    mixer = Mixer(31 * N + figures)
    found = []
    while len(found) < many:
        a = 1 + N * (mixer.below(10 ** figures) - 10 ** figures // 2)
        f = mixer.below(10 ** figures) - 10 ** figures // 2
        if a != 1 and gcd(a, f) == 1:
            found.append((a, f))
    return found


class HelpersTest(unittest.TestCase):
    def test_nearest_rest(self):
        for modulus in (1, 2, 3, 7, -7, -12, BIG):
            for number in [*range(-30, 31), BIG + 1, -BIG]:
                found = nearest_rest(number, modulus)
                self.assertEqual((number - found) % modulus, 0)
                self.assertLessEqual(abs(2 * found), abs(modulus))

    def test_divisors(self):
        for number in [*range(1, 700), 2 ** 7 * 3 ** 3 * 5, 397 ** 2, 401 * 2, 9973]:
            self.assertEqual(divisors_of(number, 400), divisors(number))
            self.assertEqual(divisors_of(-number, 400), divisors(number))
        self.assertEqual(divisors_of(2 * 401 * 409, 400), [1, 2])
        self.assertEqual(divisors_of(6 * 41 * 43, 40), [1, 2, 3, 6])

    def test_what_divisors_lead_to(self):
        for N, a, f in ((7, 1 + 7 * 12, 5), (6, 1 - 6 * 30, 7), (30, 1 + 30 * 97, 11)):
            column = Column(N, a, f, 100)
            for rest, goal in column.goals.items():
                self.assertEqual(rest, goal % abs(a))
                self.assertEqual(followed(N, a, goal, column.last_moves(rest))[0], 1)
            self.assertEqual(sorted({abs(goal) for goal in column.goals.values()}), divisors((a - 1) // N))
            for factor, (word, d) in column.factors:
                self.assertEqual(factor, d % abs(a) if word == "lend" else pow(d, -1, abs(a)))
            for left, plan in column.farther([(f, [])]) + column.farther(column.farther([(f, [])])):
                self.assertEqual(followed(N, a, f, plan)[1] % abs(a), left)

    def test_settled(self):
        for N in (6, 7, 30):
            for a, f in columns(N, 9, 30):
                small_a, small_f, plan = settled(N, a, f)
                self.assertEqual(followed(N, a, f, plan), (small_a, small_f))
                self.assertLessEqual(2 * abs(small_f), abs(small_a))
                self.assertLessEqual(abs(small_a), abs(N * small_f) // 2 + 1 if small_f else 1)


class PlanTest(unittest.TestCase):
    def assert_plan(self, N, a, f, plan):
        self.assertIsNotNone(plan)
        self.assertEqual(followed(N, a, f, plan)[0], 1)

    def test_all_small_columns(self):
        for N in range(6, 31):
            for e in range(-60 // N, 60 // N + 1):
                a = 1 + N * e
                for f in range(1, abs(a)):
                    if a != 1 and gcd(a, f) == 1:
                        plan = plan_at_once(N, a, f)
                        with self.subTest(N=N, a=a, f=f):
                            self.assert_plan(N, a, f, plan_of(N, a, f) if plan is None else plan)

    def test_columns_of_many_sizes(self):
        for N in range(6, 31, 2):
            for figures in (3, 5, 8, 12, 25):
                for a, f in columns(N, figures, 3):
                    with self.subTest(N=N, a=a, f=f):
                        self.assert_plan(N, a, f, plan_of(N, a, f))

    def test_at_once(self):
        for N in range(6, 31):
            for a, c in told_columns(N, 8, 40):
                plan = plan_at_once(N, a, c // N)
                self.assert_plan(N, a, c // N, plan)
                self.assertLessEqual(len([word for word, _ in plan if word in ("lend", "share")]), 3)
            self.assertEqual(plan_at_once(N, 1, 17), [])

    def test_not_at_once(self):
        self.assertIsNone(plan_at_once(6, 10 ** 6 * 6 + 1, 10 ** 6 - 1))
        nothing = 0
        for a, f in columns(30, 4, 60):
            plan = plan_at_once(30, a, f)
            nothing += plan is None
            if plan is not None:
                self.assert_plan(30, a, f, plan)
        self.assertGreater(nothing, 10)


class SpeedTest(unittest.TestCase):
    def test_great_columns(self):
        for N in (6, 30):
            for a, f in columns(N, 100, 2):
                start = time.process_time()
                plan = plan_of(N, a, f)
                self.assertLess(time.process_time() - start, 1)
                self.assertEqual(followed(N, a, f, plan)[0], 1)
                self.assertLess(len(plan), 1000)


if __name__ == "__main__":
    unittest.main()
