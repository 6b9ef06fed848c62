"""Points [3], [5] and [6]."""

import itertools
import unittest

from creditfloor import thresholds as module
from creditfloor.thresholds import least_equal, steps, threshold, thresholds
from tests.helpers import kept_with_whole_demands

BUDGETS = (1, 2, 3, 4, 7, 10, 999, 10 ** 6)


class ThresholdsTest(unittest.TestCase):
    def test_example(self):
        self.assertEqual((threshold(3, 2), thresholds(4, 3), steps(4, 2)), (9, (3, 8, 14, 21), (2, 3, 4, 4)))

    def test_first_values(self):
        for budget in BUDGETS:
            with self.subTest(budget):
                self.assertEqual(threshold(0, budget), 0)
                self.assertEqual(threshold(1, budget), budget)

    def test_rule(self):
        for budget in BUDGETS:
            for size in range(1, 60):
                with self.subTest(budget=budget, size=size):
                    here = threshold(size, budget)
                    self.assertEqual(threshold(size + 1, budget), here + budget + (here - 1) // size)

    def test_rule_up_to_1000(self):
        for budget in BUDGETS:
            with self.subTest(budget):
                found = thresholds(1000, budget)
                self.assertEqual(len(found), 1000)
                self.assertEqual(found[0], budget)
                for size in range(1, 1000):
                    here = found[size - 1]
                    self.assertEqual(found[size], here + budget + (here - 1) // size)

    def test_written_out(self):
        self.assertEqual(thresholds(6, 1), (1, 2, 3, 4, 5, 6))
        self.assertEqual(thresholds(5, 2), (2, 5, 9, 13, 18))
        self.assertEqual(thresholds(3, 10 ** 6), (10 ** 6, 2999999, 5499998))
        self.assertEqual(threshold(1000, 1), 1000)

    def test_no_count(self):
        for budget in BUDGETS:
            with self.subTest(budget):
                self.assertEqual(thresholds(0, budget), ())
                self.assertEqual(steps(0, budget), ())

    def test_count_one(self):
        for budget in BUDGETS:
            with self.subTest(budget):
                self.assertEqual(thresholds(1, budget), (budget,))
                self.assertEqual(steps(1, budget), (budget,))

    def test_agree(self):
        for budget in BUDGETS:
            for count in (0, 1, 2, 3, 39, 40, 41, 1000):
                with self.subTest(budget=budget, count=count):
                    found = thresholds(count, budget)
                    taken = steps(count, budget)
                    self.assertIs(type(found), tuple)
                    self.assertIs(type(taken), tuple)
                    self.assertEqual(len(found), count)
                    self.assertEqual(len(taken), count)
                    self.assertEqual(tuple(itertools.accumulate(taken)), found)
                    self.assertEqual(threshold(count, budget), sum(taken))

    def test_threshold_is_the_last_of_thresholds(self):
        for budget in (1, 3, 10 ** 6):
            found = thresholds(200, budget)
            for size in range(1, 201):
                with self.subTest(budget=budget, size=size):
                    self.assertEqual(threshold(size, budget), found[size - 1])

    def test_steps_never_fall(self):
        for budget in BUDGETS:
            with self.subTest(budget):
                taken = steps(1000, budget)
                self.assertEqual(list(taken), sorted(taken))

    def test_by_name(self):
        self.assertEqual(threshold(budget=2, size=3), 9)
        self.assertEqual(thresholds(budget=3, count=4), (3, 8, 14, 21))
        self.assertEqual(steps(budget=2, count=4), (2, 3, 4, 4))

    def test_defined_in_the_file(self):
        for name in ("threshold", "thresholds", "steps", "least_equal"):
            with self.subTest(name):
                self.assertEqual(getattr(module, name).__module__, "creditfloor.thresholds")


class LeastEqualTest(unittest.TestCase):
    def test_example(self):
        self.assertEqual((least_equal(1, 2), least_equal(3, 2), least_equal(4, 2)), (2, 3, 4))

    def test_one_sender(self):
        for budget in BUDGETS:
            with self.subTest(budget):
                self.assertEqual(least_equal(1, budget), budget)

    def test_least_without_weak_set(self):
        for budget in BUDGETS:
            for count in range(1, 41):
                with self.subTest(budget=budget, count=count):
                    balance = least_equal(count, budget)
                    needs = [(size, threshold(size, budget)) for size in range(1, count + 1)]
                    self.assertTrue(all(size * balance >= need for size, need in needs))
                    self.assertTrue(any(size * (balance - 1) < need for size, need in needs))

    def test_the_game_itself(self):
        for count, budget in ((1, 1), (1, 3), (2, 1), (2, 2), (2, 3), (3, 1), (3, 2), (3, 3), (4, 2)):
            with self.subTest(count=count, budget=budget):
                balance = least_equal(count, budget)
                for held, right in ((balance, True), (balance - 1, False)):
                    kept = kept_with_whole_demands(count, budget, held * count)
                    self.assertIs((held,) * count in kept, right)

    def test_by_name(self):
        self.assertEqual(least_equal(budget=2, count=4), 4)


if __name__ == "__main__":
    unittest.main()
