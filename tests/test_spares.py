"""Points [2], [3], [4] (e), [19] and [20]."""

import itertools
import unittest

from creditfloor import spares as module
from creditfloor.errors import CreditError, NoSender, NotSafe
from creditfloor.safety import is_safe
from creditfloor.spares import entry, greatest_budget, spare, spares, total_spare
from creditfloor.thresholds import steps, threshold
from tests.helpers import ODD_THINGS, first_weak_set, is_plain, lcg, parameters, small_cases, tuples, with_part

SMALL = ((1, 1), (1, 2), (1, 5), (2, 1), (2, 2), (2, 3), (2, 5), (3, 1), (3, 2), (3, 3), (4, 1), (4, 2))
NO_SENDERS = (-1, -3, 3, 4, 40, 10 ** 30, -10 ** 30, True, False, "0", "", b"0", None, (0,), (), [0], {0: 1}, ((0,),))


def great_cases():
    """Safe balances of many senders, with their budgets."""
    numbers = lcg(19)
    for count, budget in ((5, 3), (8, 10), (20, 1), (20, 999), (38, 2), (39, 7), (39, 10 ** 6), (40, 2), (40, 10 ** 6)):
        right = steps(count, budget)
        for above in (1, 2, 3 * budget, 10 ** 11):
            parts = [part + next(numbers) % above for part in right]
            order = sorted(range(count), key=lambda at: next(numbers))
            yield tuple(parts[at] for at in order), budget
        yield (10 ** 12,) * count, budget
        yield right[:-1] + (10 ** 12,), budget


def safe_cases():
    return [case for case in small_cases(SMALL) if is_safe(*case)] + list(great_cases())


def unsafe_cases():
    cases = [(with_part(steps(40, 7), at, steps(40, 7)[at] - 1), 7) for at in (0, 1, 20, 39)]
    return cases + [case for case in small_cases(SMALL) if first_weak_set(*case) is not None]


class SpareTest(unittest.TestCase):
    def test_example(self):
        self.assertEqual((spare((4, 4, 4), 2, 0), spares((4, 2, 4), 2), total_spare((4, 4, 4), 2)), (2, (1, 0, 1), 3))

    def test_exact(self):
        for balances, budget in safe_cases():
            for sender, balance in enumerate(balances):
                with self.subTest(balances=balances, budget=budget, sender=sender):
                    found = spare(balances, budget, sender)
                    self.assertTrue(is_plain(found))
                    self.assertGreaterEqual(found, 0)
                    self.assertIs(is_safe(with_part(balances, sender, balance - found), budget), True)
                    self.assertIs(is_safe(with_part(balances, sender, balance - found - 1), budget), False)

    def test_spares_of_all(self):
        for balances, budget in safe_cases():
            with self.subTest(balances=balances, budget=budget):
                found = spares(balances, budget)
                self.assertEqual(found, tuple(spare(balances, budget, at) for at in range(len(balances))))
                self.assertTrue(is_plain(found))

    def test_written_out(self):
        self.assertEqual(spare((9,), 5, 0), 4)
        self.assertEqual(spares((5,), 5), (0,))
        self.assertEqual(spares((10 ** 12, 1), 1), (10 ** 12 - 1, 0))
        self.assertEqual(spares(steps(40, 10 ** 6), 10 ** 6), (0,) * 40)

    def test_not_safe(self):
        for balances, budget in unsafe_cases():
            for call in (
                lambda: spare(balances, budget, 0), lambda: spare(balances, budget, "0"),
                lambda: spare(balances, budget, len(balances)), lambda: spares(balances, budget),
                lambda: total_spare(balances, budget), lambda: entry(balances, budget),
            ):
                with self.subTest(balances=balances, budget=budget):
                    with self.assertRaises(NotSafe) as caught:
                        call()
                    self.assertEqual(caught.exception.value, first_weak_set(balances, budget))
                    self.assertIsInstance(caught.exception, CreditError)

    def test_no_sender(self):
        for sender in ODD_THINGS + NO_SENDERS:
            with self.subTest(repr(sender)):
                with self.assertRaises(NoSender) as caught:
                    spare((4, 4, 4), 2, sender)
                self.assertIs(caught.exception.value, sender)

    def test_not_safe_goes_first(self):
        for sender in ODD_THINGS + NO_SENDERS:
            with self.subTest(repr(sender)):
                with self.assertRaises(NotSafe) as caught:
                    spare((9, 2, 2), 2, sender)
                self.assertEqual(caught.exception.value, (1, 2))


class TotalSpareTest(unittest.TestCase):
    def withdrawn_in_order(self, balances, budget, order):
        held = balances
        for sender in order:
            held = with_part(held, sender, held[sender] - spare(held, budget, sender))
        return sum(balances) - sum(held)

    def test_in_any_order(self):
        for balances, budget in small_cases(SMALL):
            if is_safe(balances, budget):
                for order in itertools.permutations(range(len(balances))):
                    with self.subTest(balances=balances, budget=budget, order=order):
                        found = total_spare(balances, budget)
                        self.assertEqual(found, self.withdrawn_in_order(balances, budget, order))
                        self.assertTrue(is_plain(found))

    def test_in_some_orders_of_many(self):
        for balances, budget in great_cases():
            count = len(balances)
            for order in (range(count), range(count - 1, -1, -1), sorted(range(count), key=lambda at: at * 7 % count)):
                with self.subTest(balances=balances, budget=budget, order=order):
                    found = self.withdrawn_in_order(balances, budget, order)
                    self.assertEqual(total_spare(balances, budget), found)

    def test_greatest_of_all(self):
        for count, budget in ((1, 3), (2, 2), (2, 3), (3, 1), (3, 2)):
            safe_ones = [other for other in tuples(count, steps(count, budget)[-1] + 1) if is_safe(other, budget)]
            for balances in safe_ones:
                with self.subTest(balances=balances, budget=budget):
                    below = [o for o in safe_ones if all(after <= before for before, after in zip(balances, o))]
                    self.assertEqual(total_spare(balances, budget), sum(balances) - min(map(sum, below)))


class EntryTest(unittest.TestCase):
    def test_example(self):
        self.assertEqual(
            (entry((9,), 2), entry((2, 3, 90), 2), greatest_budget((4, 4)), greatest_budget((0, 9))), (2, 4, 3, 0)
        )

    def test_exact(self):
        for balances, budget in safe_cases():
            if len(balances) <= 39:
                with self.subTest(balances=balances, budget=budget):
                    found = entry(balances, budget)
                    self.assertTrue(is_plain(found))
                    self.assertIs(is_safe(balances + (found,), budget), True)
                    self.assertIs(is_safe(balances + (found - 1,), budget), False)

    def test_each_number_of_senders(self):
        for count in range(1, 40):
            for budget in (1, 2, 7, 10 ** 6):
                with self.subTest(count=count, budget=budget):
                    right = steps(count + 1, budget)
                    self.assertEqual(entry(right[:-1], budget), right[-1])
                    self.assertEqual(entry((10 ** 12,) * count, budget), budget)

    def test_one_sender(self):
        self.assertEqual(entry((2,), 2), 3)
        self.assertEqual(entry((1,), 1), 1)
        self.assertEqual(entry((10 ** 6,), 10 ** 6), threshold(2, 10 ** 6) - 10 ** 6)


class GreatestBudgetTest(unittest.TestCase):
    def check(self, balances):
        found = greatest_budget(balances)
        self.assertTrue(is_plain(found))
        self.assertGreaterEqual(found, 0)
        if found > 0:
            self.assertIs(is_safe(balances, found), True)
        self.assertIs(is_safe(balances, found + 1), False)

    def test_small(self):
        for balances in tuples(1, 9) + tuples(2, 9) + tuples(3, 7) + tuples(4, 4):
            with self.subTest(balances):
                self.check(balances)
                safe = [budget for budget in range(1, 11) if first_weak_set(balances, budget) is None]
                self.assertEqual(greatest_budget(balances), max(safe, default=0))

    def test_many(self):
        for balances, budget in great_cases():
            with self.subTest(balances):
                self.check(balances)
                self.assertGreaterEqual(greatest_budget(balances), budget)

    def test_the_steps(self):
        for count in (1, 2, 3, 39, 40):
            for budget in (1, 2, 7, 999, 10 ** 6, 10 ** 6 + 1, 10 ** 9):
                with self.subTest(count=count, budget=budget):
                    self.check(steps(count, budget))

    def test_one_sender(self):
        for balance in (0, 1, 2, 10 ** 6 - 1, 10 ** 6, 10 ** 6 + 1, 10 ** 12 - 1, 10 ** 12):
            with self.subTest(balance):
                self.assertEqual(greatest_budget((balance,)), balance)

    def test_none(self):
        for balances in ((0,), (0, 0), (0, 9), (9, 0, 9), (10 ** 12,) * 39 + (0,), (0,) * 40):
            with self.subTest(balances):
                self.assertEqual(greatest_budget(balances), 0)

    def test_above_a_million(self):
        self.assertGreater(greatest_budget((10 ** 12,) * 40), 10 ** 6)
        self.assertGreater(greatest_budget((10 ** 12,) * 2), 10 ** 11)


class InterfaceTest(unittest.TestCase):
    def test_defined_in_the_file(self):
        for name in ("spare", "spares", "total_spare", "entry", "greatest_budget"):
            with self.subTest(name):
                self.assertEqual(getattr(module, name).__module__, "creditfloor.spares")

    def test_parameters(self):
        self.assertEqual(parameters(spare), ("balances", "budget", "sender"))
        self.assertEqual(parameters(spares), ("balances", "budget"))
        self.assertEqual(parameters(total_spare), ("balances", "budget"))
        self.assertEqual(parameters(entry), ("balances", "budget"))
        self.assertEqual(parameters(greatest_budget), ("balances",))

    def test_by_name(self):
        self.assertEqual(spare(sender=2, budget=2, balances=(4, 2, 5)), spare((4, 2, 5), 2, 2))
        self.assertEqual(spares(budget=2, balances=(4, 2, 4)), (1, 0, 1))
        self.assertEqual(total_spare(budget=2, balances=(4, 4, 4)), 3)
        self.assertEqual(entry(budget=2, balances=(2, 3, 90)), 4)
        self.assertEqual(greatest_budget(balances=(4, 4)), 3)

    def test_arguments_stay(self):
        balances, sender = (4, 4, 4), [0, [1]]
        self.assertRaises(NoSender, spare, balances, 2, sender)
        spares(balances, 2)
        total_spare(balances, 2)
        entry(balances, 2)
        greatest_budget(balances)
        self.assertEqual((balances, sender), ((4, 4, 4), [0, [1]]))


if __name__ == "__main__":
    unittest.main()
