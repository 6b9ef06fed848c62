"""Points [2], [3], [4] (a), [9] and [10]."""

import itertools
import unittest

from creditfloor import safety as module
from creditfloor.safety import gap, is_safe, is_weak_set, slack, sums, weak_set
from creditfloor.thresholds import steps, threshold, thresholds
from tests.helpers import (
    ODD_THINGS, Odd, is_plain, kept_with_all_demands, kept_with_whole_demands, nested, parameters, splits, subsets,
    tuples,
)

SMALL = (
    (1, 1), (1, 2), (1, 5), (2, 1), (2, 2), (2, 3), (2, 5), (3, 1), (3, 2), (3, 3), (3, 4), (4, 1), (4, 2), (4, 3),
)
BUDGETS = (1, 2, 3, 7, 10 ** 6)


class SumsTest(unittest.TestCase):
    def test_example(self):
        self.assertEqual((sums((4, 2, 3)), is_safe((4, 2, 3), 2), gap((2, 2, 9), 2)), ((2, 5, 9), True, (2, 4, 5)))

    def test_written_out(self):
        self.assertEqual(sums((5,)), (5,))
        self.assertEqual(sums((0,)), (0,))
        self.assertEqual(sums((9, 0, 0, 1)), (0, 0, 1, 10))
        self.assertEqual(sums((10 ** 12,) * 40), tuple(10 ** 12 * k for k in range(1, 41)))
        self.assertEqual(sums(tuple(range(39, -1, -1))), tuple(k * (k - 1) // 2 for k in range(1, 41)))

    def test_least_sums_of_all_sets(self):
        for balances in tuples(4, 3):
            with self.subTest(balances):
                least = [min(map(sum, itertools.combinations(balances, k))) for k in range(1, 5)]
                self.assertEqual(sums(balances), tuple(least))

    def test_kinds(self):
        self.assertTrue(is_plain(sums((4, 2, 3))))


class IsSafeTest(unittest.TestCase):
    def test_not_safe_in_the_game(self):
        for count, budget in SMALL:
            for total in range(threshold(count, budget) + 3):
                kept = kept_with_whole_demands(count, budget, total)
                for balances in splits(count, total):
                    with self.subTest(balances=balances, budget=budget):
                        self.assertIs(is_safe(balances, budget), balances in kept)

    def test_safe_in_the_game(self):
        for count, budget in SMALL:
            most = steps(count, budget)[-1] + 1
            kept = kept_with_all_demands(count, budget, most)
            for balances in tuples(count, most):
                with self.subTest(balances=balances, budget=budget):
                    self.assertIs(is_safe(balances, budget), balances in kept)

    def test_exactly_without_a_weak_set(self):
        for budget in (1, 2, 3):
            for balances in tuples(3, 7):
                with self.subTest(balances=balances, budget=budget):
                    weak = [s for s in subsets(range(3)) if sum(balances[i] for i in s) < threshold(len(s), budget)]
                    self.assertIs(is_safe(balances, budget), weak == [])

    def test_each_order(self):
        for balances in ((2, 3, 4), (2, 2, 9), (0, 3, 3), (3, 3, 3), (2, 3, 3), (9, 9, 1)):
            for order in itertools.permutations(balances):
                with self.subTest(order):
                    self.assertIs(is_safe(order, 2), is_safe(balances, 2))
                    self.assertEqual(gap(order, 2), gap(balances, 2))

    def test_the_steps_are_just_safe(self):
        for budget in BUDGETS:
            for count in (1, 2, 3, 39, 40):
                right = steps(count, budget)
                with self.subTest(budget=budget, count=count):
                    self.assertIs(is_safe(right, budget), True)
                    self.assertIs(is_safe(right[::-1], budget), True)
                    for at in range(count):
                        less = right[:at] + (right[at] - 1,) + right[at + 1:]
                        self.assertIs(is_safe(less, budget), False)

    def test_one_sender(self):
        for budget in BUDGETS:
            with self.subTest(budget):
                self.assertIs(is_safe((0,), budget), False)
                self.assertIs(is_safe((budget - 1,), budget), False)
                self.assertIs(is_safe((budget,), budget), True)
                self.assertIs(is_safe((10 ** 12,), budget), True)

    def test_great_and_no_balances(self):
        for budget in BUDGETS:
            with self.subTest(budget):
                self.assertIs(is_safe((10 ** 12,) * 40, budget), True)
                self.assertIs(is_safe((0,) * 40, budget), False)
                self.assertIs(is_safe((10 ** 12,) * 39 + (0,), budget), False)
                self.assertIs(is_safe((10 ** 12,) * 39 + (budget,), budget), True)

    def test_budget_1(self):
        self.assertIs(is_safe((1,) * 40, 1), True)
        self.assertIs(is_safe((1,) * 39 + (0,), 1), False)


class GapTest(unittest.TestCase):
    def test_none_exactly_for_safe_balances(self):
        for budget in (1, 2, 3):
            for balances in tuples(3, 7):
                with self.subTest(balances=balances, budget=budget):
                    self.assertEqual(gap(balances, budget) is None, is_safe(balances, budget))

    def test_the_least_k_and_both_numbers(self):
        for budget in (1, 2, 3, 4):
            for balances in tuples(3, 8):
                with self.subTest(balances=balances, budget=budget):
                    held, needs = sums(balances), thresholds(3, budget)
                    found = [(k + 1, held[k], needs[k]) for k in range(3) if held[k] < needs[k]]
                    self.assertEqual(gap(balances, budget), found[0] if found else None)

    def test_written_out(self):
        self.assertEqual(gap((1, 0), 2), (1, 0, 2))
        self.assertEqual(gap((1,), 2), (1, 1, 2))
        self.assertIsNone(gap((2,), 2))
        self.assertEqual(gap((3, 3, 2), 2), (3, 8, 9))
        self.assertEqual(gap((2, 10 ** 12, 2), 2), (2, 4, 5))
        self.assertEqual(gap((0,) * 40, 10 ** 6), (1, 0, 10 ** 6))
        self.assertEqual(gap((10 ** 6, 10 ** 6), 10 ** 6), (2, 2 * 10 ** 6, 2999999))

    def test_40_senders(self):
        for budget in BUDGETS:
            right = steps(40, budget)
            with self.subTest(budget):
                self.assertIsNone(gap(right, budget))
                need = threshold(40, budget)
                if right[-1] > right[-2]:
                    self.assertEqual(gap(right[:-1] + (right[-1] - 1,), budget), (40, need - 1, need))

    def test_kinds(self):
        for balances in ((1, 0), (3, 3, 2), (9,)):
            self.assertTrue(is_plain(gap(balances, 2)))
            self.assertTrue(is_plain(is_safe(balances, 2)))


class WeakSetTest(unittest.TestCase):
    def test_example(self):
        self.assertEqual(
            (weak_set((9, 2, 2), 2), is_weak_set((2, 2, 9), 2, (0, 1)), slack((2, 2, 9), 2, (0, 2))),
            ((1, 2), True, 6),
        )

    def test_equal_balances(self):
        self.assertEqual(weak_set((2, 2, 2), 2), (0, 1))
        self.assertEqual(weak_set((0, 0, 0), 2), (0,))
        self.assertEqual(weak_set((5, 1, 1), 2), (1,))
        self.assertEqual(weak_set((9, 2, 9, 2, 2), 2), (1, 3))
        self.assertEqual(weak_set((3, 2, 3, 3), 2), (0, 1, 2))
        self.assertEqual(weak_set((4, 3, 2, 3), 2), (1, 2, 3))
        self.assertEqual(weak_set((3, 3, 2), 2), (0, 1, 2))
        self.assertEqual(weak_set((0,) * 40, 1), (0,))
        self.assertEqual(weak_set((1,) * 39 + (0,), 1), (39,))

    def test_by_definition(self):
        for budget in (1, 2, 3):
            for balances in tuples(3, 7):
                with self.subTest(balances=balances, budget=budget):
                    found = gap(balances, budget)
                    pairs = sorted((balance, at) for at, balance in enumerate(balances))
                    right = None if found is None else tuple(sorted(at for _, at in pairs[:found[0]]))
                    self.assertEqual(weak_set(balances, budget), right)
                    self.assertTrue(is_plain(weak_set(balances, budget)))
                    if right is not None:
                        self.assertIs(is_weak_set(balances, budget, right), True)

    def test_safe(self):
        self.assertIsNone(weak_set((2, 3, 4), 2))
        self.assertIsNone(weak_set((10 ** 12,) * 40, 10 ** 6))
        self.assertIsNone(weak_set((1,), 1))

    def test_40_senders(self):
        short = (least := threshold(40, 10 ** 6)) // 40
        self.assertLess(40 * short, least)
        found = weak_set((short,) * 40, 10 ** 6)
        self.assertEqual(found, tuple(range(len(found))))
        self.assertEqual(len(found), gap((short,) * 40, 10 ** 6)[0])


class IsWeakSetTest(unittest.TestCase):
    def test_all_sets(self):
        for budget in (1, 2, 3):
            for balances in tuples(3, 6):
                for senders in subsets(range(3)):
                    with self.subTest(balances=balances, budget=budget, senders=senders):
                        weak = sum(balances[at] for at in senders) < threshold(len(senders), budget)
                        self.assertIs(is_weak_set(balances, budget, senders), weak)

    def test_not_the_first_one(self):
        self.assertIs(is_weak_set((0, 1, 9), 2, (1,)), True)
        self.assertIs(is_weak_set((0, 1, 9), 2, (0, 1)), True)
        self.assertIs(is_weak_set((0, 1, 2), 2, (0, 1, 2)), True)
        self.assertIs(is_weak_set((0, 1, 9), 2, (2,)), False)

    def test_wrong_indexes(self):
        # All balances are 0, so that every nonempty ascending tuple of indexes is a weak set.
        for thing in (
            (), (1, 0), (2, 1, 0), (0, 2, 1), (0, 0), (1, 1), (0, 1, 1), (-1,), (-1, 0), (-3, -2), (0, -1), (3,),
            (0, 3), (0, 1, 2, 3), (10 ** 30,), (-10 ** 30,), (True,), (False,), (0, True), (False, 1), (False, True),
            [0], [0, 1], [], ((0,),), ((0, 1),), (0, (1,)), ([0],), ("0",), "0", "01", b"0", b"\x00", 0, 1, {0: 1},
            {0}, {}, None, (None,), (0, None), range(1), iter((0,)), nested(30), Odd(), (Odd(),), (0, Odd()),
        ) + ODD_THINGS:
            with self.subTest(repr(thing)):
                self.assertIs(is_weak_set((0, 0, 0), 2, thing), False)

    def test_right_indexes(self):
        for thing in ((0,), (1,), (2,), (0, 1), (0, 2), (1, 2), (0, 1, 2)):
            with self.subTest(thing):
                self.assertIs(is_weak_set((0, 0, 0), 2, thing), True)
                self.assertIs(is_weak_set((9, 9, 9), 2, thing), False)

    def test_one_and_40_senders(self):
        self.assertIs(is_weak_set((1,), 2, (0,)), True)
        self.assertIs(is_weak_set((1,), 2, (1,)), False)
        self.assertIs(is_weak_set((0,) * 40, 2, tuple(range(40))), True)
        self.assertIs(is_weak_set((0,) * 40, 2, tuple(range(41))), False)
        self.assertIs(is_weak_set((0,) * 40, 2, (39,)), True)
        self.assertIs(is_weak_set((0,) * 40, 2, (40,)), False)
        self.assertIs(is_weak_set(steps(40, 10 ** 6), 10 ** 6, tuple(range(40))), False)

    def test_the_thing_stays(self):
        thing = [0, [1], {2: 3}]
        is_weak_set((0, 0, 0), 2, thing)
        self.assertEqual(thing, [0, [1], {2: 3}])


class SlackTest(unittest.TestCase):
    def test_by_definition(self):
        for budget in (1, 2, 3):
            for balances in tuples(3, 6):
                for senders in subsets(range(3)):
                    with self.subTest(balances=balances, budget=budget, senders=senders):
                        right = sum(balances[at] for at in senders) - threshold(len(senders), budget)
                        self.assertEqual(slack(balances, budget, senders), right)

    def test_written_out(self):
        self.assertEqual(slack((2, 2, 9), 2, (0, 1)), -1)
        self.assertEqual(slack((2, 3, 4), 2, (0, 1, 2)), 0)
        self.assertEqual(slack((2, 3, 4), 2, (2,)), 2)
        self.assertEqual(slack((0,), 10 ** 6, (0,)), -10 ** 6)
        self.assertEqual(slack((10 ** 12,) * 40, 1, tuple(range(40))), 40 * 10 ** 12 - 40)

    def test_kinds(self):
        self.assertTrue(is_plain(slack((2, 2, 9), 2, (0, 1))))


class InterfaceTest(unittest.TestCase):
    def test_defined_in_the_file(self):
        for name in ("sums", "is_safe", "gap", "weak_set", "is_weak_set", "slack"):
            with self.subTest(name):
                self.assertEqual(getattr(module, name).__module__, "creditfloor.safety")

    def test_parameters(self):
        self.assertEqual(parameters(sums), ("balances",))
        for function in (is_safe, gap, weak_set):
            self.assertEqual(parameters(function), ("balances", "budget"))
        self.assertEqual(parameters(is_weak_set), ("balances", "budget", "thing"))
        self.assertEqual(parameters(slack), ("balances", "budget", "senders"))

    def test_by_name(self):
        self.assertEqual(sums(balances=(4, 2, 3)), (2, 5, 9))
        self.assertIs(is_safe(budget=2, balances=(4, 2, 3)), True)
        self.assertEqual(gap(budget=2, balances=(2, 2, 9)), (2, 4, 5))
        self.assertEqual(weak_set(budget=2, balances=(9, 2, 2)), (1, 2))
        self.assertIs(is_weak_set(thing=(0, 1), budget=2, balances=(2, 2, 9)), True)
        self.assertEqual(slack(senders=(0, 2), budget=2, balances=(2, 2, 9)), 6)

    def test_arguments_stay(self):
        balances, senders = (9, 2, 2), (1, 2)
        for function in (is_safe, gap, weak_set):
            function(balances, 2)
        sums(balances)
        is_weak_set(balances, 2, senders)
        slack(balances, 2, senders)
        self.assertEqual((balances, senders), ((9, 2, 2), (1, 2)))


if __name__ == "__main__":
    unittest.main()
