"""Points [2], [3], [4] (b), [11] and [12]."""

import unittest

from creditfloor import grants as module
from creditfloor.grants import best_grant, good_grants, served
from creditfloor.safety import is_safe, sums
from creditfloor.thresholds import steps
from creditfloor.ticks import after_demand, after_grant, stalled
from tests.helpers import demands_of, is_plain, lcg, minus, parameters, small_cases, tuples

SMALL = ((1, 1), (1, 3), (2, 1), (2, 2), (2, 3), (3, 1), (3, 2), (3, 3))


class BestGrantTest(unittest.TestCase):
    def test_example(self):
        self.assertEqual(
            (best_grant((2, 2, 3)), good_grants((2, 2, 3), 2), good_grants((1, 1, 9), 2)), (0, (0, 1), ())
        )

    def test_written_out(self):
        for balances, right in (
            ((5,), 0), ((0,), 0), ((3, 2, 2), 1), ((1, 1, 1), 0), ((2, 0, 1, 0), 1), ((9, 8, 7), 2),
            ((10 ** 12,) * 40, 0), ((10 ** 12,) * 39 + (10 ** 12 - 1,), 39), ((1,) + (0,) * 39, 1),
        ):
            with self.subTest(balances):
                self.assertEqual(best_grant(balances), right)
                self.assertTrue(is_plain(best_grant(balances)))

    def test_the_first_of_the_smallest(self):
        for balances in tuples(4, 3):
            with self.subTest(balances):
                sender = best_grant(balances)
                self.assertTrue(all(balance > balances[sender] for balance in balances[:sender]))
                self.assertTrue(all(balance >= balances[sender] for balance in balances[sender:]))

    def test_every_sum_is_greatest(self):
        for balances in tuples(3, 4):
            for budget in (1, 2, 3):
                best = sums(after_grant(balances, best_grant(balances), budget))
                for sender in range(3):
                    with self.subTest(balances=balances, budget=budget, sender=sender):
                        other = sums(after_grant(balances, sender, budget))
                        self.assertTrue(all(one >= two for one, two in zip(best, other)))

    def test_safe_balances_stay_safe(self):
        for balances, budget in small_cases(SMALL):
            if is_safe(balances, budget):
                for demand in demands_of(len(balances), budget):
                    with self.subTest(balances=balances, budget=budget, demand=demand):
                        left = after_demand(balances, demand, budget)
                        self.assertIs(is_safe(after_grant(left, best_grant(left), budget), budget), True)


class GoodGrantsTest(unittest.TestCase):
    def test_by_definition(self):
        for balances, budget in small_cases(SMALL):
            with self.subTest(balances=balances, budget=budget):
                found = good_grants(balances, budget)
                right = [at for at in range(len(balances)) if is_safe(after_grant(balances, at, budget), budget)]
                self.assertEqual(found, tuple(right))
                self.assertTrue(is_plain(found))

    def test_has_the_best_one_if_there_is_one(self):
        for balances, budget in small_cases(SMALL):
            with self.subTest(balances=balances, budget=budget):
                found = good_grants(balances, budget)
                self.assertEqual(best_grant(balances) in found, found != ())

    def test_written_out(self):
        self.assertEqual(good_grants((0,), 5), (0,))
        self.assertEqual(good_grants((9, 9, 9), 2), (0, 1, 2))
        self.assertEqual(good_grants((9, 0, 9), 2), (1,))
        self.assertEqual(good_grants((2, 1), 2), (1,))
        self.assertEqual(good_grants((1, 2), 2), (0,))
        self.assertEqual(good_grants((10 ** 12,) * 40, 10 ** 6), tuple(range(40)))
        self.assertEqual(good_grants((0,) * 40, 10 ** 6), ())
        self.assertEqual(good_grants((10 ** 12,) * 39 + (0,), 10 ** 6), (39,))


class ServedTest(unittest.TestCase):
    def test_examples(self):
        self.assertEqual(served((2, 3, 4), 2, ((0, 1, 1), (2, 0, 0))), ((0, 0), (4, 2, 3)))
        self.assertEqual(served((2, 2, 9), 2, ((1, 1, 0), (0, 2, 0))), ((0,), (3, 1, 9)))

    def test_no_demands(self):
        for balances in ((0,), (2, 3, 4), (10 ** 12,) * 40):
            with self.subTest(balances):
                self.assertEqual(served(balances, 2, ()), ((), balances))

    def test_less_than_the_budget(self):
        self.assertEqual(served((2, 3, 4), 2, ((0, 0, 0),)), ((0,), (4, 3, 4)))
        self.assertEqual(served((2, 3, 4), 2, ((0, 0, 0), (0, 0, 1), (0, 1, 0))), ((0, 1, 2), (4, 4, 5)))
        self.assertEqual(served((5,), 3, ((1,), (0,), (2,))), ((0, 0, 0), (11,)))

    def test_equal_balances_after_the_demand(self):
        self.assertEqual(served((3, 3, 3), 2, ((0, 1, 1),)), ((1,), (3, 4, 2)))
        self.assertEqual(served((3, 3, 3), 3, ((1, 1, 1),)), ((0,), (5, 2, 2)))

    def test_the_stall_comes_first(self):
        self.assertEqual(served((1, 9), 2, ((2, 0),)), ((), (1, 9)))
        self.assertEqual(served((1, 9), 2, ((2, 0), (0, 0), (0, 1))), ((), (1, 9)))

    def test_the_stall_comes_in_the_middle(self):
        self.assertEqual(served((2, 2), 2, ((1, 1), (0, 2), (0, 0))), ((0,), (3, 1)))
        self.assertEqual(served((2, 2), 2, ((2, 0), (1, 1), (0, 2), (0, 0))), ((0, 0), (3, 1)))

    def test_the_stall_comes_last(self):
        self.assertEqual(served((2, 2), 2, ((1, 1), (0, 2))), ((0,), (3, 1)))
        self.assertEqual(served((2, 2), 2, ((2, 0), (1, 1), (0, 2))), ((0, 0), (3, 1)))

    def test_by_definition(self):
        for count, budget, seed in ((1, 2, 1), (2, 2, 2), (2, 3, 3), (3, 2, 4), (3, 3, 5), (4, 2, 6)):
            numbers = lcg(seed)
            every = demands_of(count, budget)
            for _ in range(100):
                balances = tuple(next(numbers) % (2 * budget + 2) for _ in range(count))
                demands = tuple(every[next(numbers) % len(every)] for _ in range(next(numbers) % 12))
                with self.subTest(balances=balances, budget=budget, demands=demands):
                    found = served(balances, budget, demands)
                    self.assertEqual(found, by_definition(balances, budget, demands))
                    self.assertTrue(is_plain(found))

    def test_safe_balances_stay_safe(self):
        for count, budget in SMALL + ((4, 2), (10, 7), (40, 1), (40, 10 ** 6)):
            numbers = lcg(count * 100 + budget)
            for _ in range(5):
                demands = tuple(some_demand(numbers, count, budget) for _ in range(60))
                balances = steps(count, budget)
                with self.subTest(count=count, budget=budget):
                    granted, left = served(balances, budget, demands)
                    self.assertEqual(len(granted), 60)
                    self.assertIs(is_safe(left, budget), True)
                    self.assertEqual(sum(left), sum(balances) + 60 * budget - sum(map(sum, demands)))

    def test_great_balances(self):
        self.assertEqual(
            served((10 ** 12, 10 ** 12), 10 ** 6, ((10 ** 6, 0), (0, 10 ** 6))), ((0, 1), (10 ** 12, 10 ** 12))
        )


def by_definition(balances, budget, demands):
    """What served returns, by the words of [12]."""
    granted = ()
    for demand in demands:
        if stalled(balances, demand):
            break
        left = minus(balances, demand)
        sender = min(range(len(left)), key=lambda at: (left[at], at))
        balances = tuple(part + budget if at == sender else part for at, part in enumerate(left))
        granted += (sender,)
    return granted, balances


def some_demand(numbers, count, budget):
    """A demand, often of the whole budget, with much of it at few senders."""
    left, demand = budget, [0] * count
    for _ in range(4):
        part = next(numbers) % (left + 1)
        demand[next(numbers) % count] += part
        left -= part
    if next(numbers) % 4:
        demand[next(numbers) % count] += left
    return tuple(demand)


class InterfaceTest(unittest.TestCase):
    def test_defined_in_the_file(self):
        for name in ("best_grant", "good_grants", "served"):
            with self.subTest(name):
                self.assertEqual(getattr(module, name).__module__, "creditfloor.grants")

    def test_parameters(self):
        self.assertEqual(parameters(best_grant), ("balances",))
        self.assertEqual(parameters(good_grants), ("balances", "budget"))
        self.assertEqual(parameters(served), ("balances", "budget", "demands"))

    def test_by_name(self):
        self.assertEqual(best_grant(balances=(2, 1, 3)), 1)
        self.assertEqual(good_grants(budget=2, balances=(2, 2, 3)), (0, 1))
        self.assertEqual(served(demands=((0, 1, 1), (2, 0, 0)), budget=2, balances=(2, 3, 4)), ((0, 0), (4, 2, 3)))

    def test_arguments_stay(self):
        balances, demands = (2, 3, 4), ((0, 1, 1), (2, 0, 0))
        best_grant(balances)
        good_grants(balances, 2)
        served(balances, 2, demands)
        self.assertEqual((balances, demands), ((2, 3, 4), ((0, 1, 1), (2, 0, 0))))


if __name__ == "__main__":
    unittest.main()
