"""Points [2], [3], [4] (f) and [22]."""

import itertools
import unittest

from creditfloor import minimal as module
from creditfloor.errors import BadNumber, CreditError, NotMinimal
from creditfloor.minimal import count_minimal, is_minimal, minimal_at, number_of
from creditfloor.safety import is_safe
from creditfloor.thresholds import steps, threshold
from tests.helpers import ODD_THINGS, first_weak_set, is_plain, parameters, small_cases, splits, with_part

SIZES = [(count, budget) for count in range(1, 6) for budget in range(1, 4)]
NOT_MINIMAL = (
    ((3, 3), 2), ((2, 2), 2), ((9, 2, 2), 2), ((4, 2, 4), 2), ((1, 4), 2), ((0, 0), 1), ((2,), 1), ((0,), 1),
    ((10 ** 12,) * 5, 3), ((10 ** 12,) * 40, 3), ((3, 3, 3, 3), 2),
)


def minimal_by_definition(balances, budget):
    if first_weak_set(balances, budget) is not None:
        return False
    less = [with_part(balances, at, balance - 1) for at, balance in enumerate(balances)]
    return all(first_weak_set(other, budget) is not None for other in less)


def right_ones(count, budget):
    """All minimal balances, ascending, picked from all balances of the total."""
    return [balances for balances in splits(count, threshold(count, budget)) if is_safe(balances, budget)]


class IsMinimalTest(unittest.TestCase):
    def test_example(self):
        self.assertEqual(
            (is_minimal((4, 2, 3), 2), count_minimal(2, 2), minimal_at(2, 2, 1), number_of((3, 2), 2)),
            (True, 2, (3, 2), 1),
        )

    def test_by_definition(self):
        for balances, budget in small_cases(((1, 1), (1, 5), (2, 1), (2, 2), (2, 5), (3, 1), (3, 2), (3, 4), (4, 2))):
            with self.subTest(balances=balances, budget=budget):
                self.assertIs(is_minimal(balances, budget), minimal_by_definition(balances, budget))

    def test_the_safe_ones_with_the_least_total(self):
        for balances, budget in small_cases(((1, 3), (2, 3), (3, 3), (4, 1), (4, 3))):
            with self.subTest(balances=balances, budget=budget):
                least = sum(balances) == threshold(len(balances), budget)
                self.assertIs(is_minimal(balances, budget), least and is_safe(balances, budget))

    def test_many(self):
        for budget in (1, 2, 7, 10 ** 6):
            for count in (1, 5, 39, 40):
                right = steps(count, budget)
                with self.subTest(budget=budget, count=count):
                    self.assertIs(is_minimal(right, budget), True)
                    self.assertIs(is_minimal(right[::-1], budget), True)
                    self.assertIs(is_minimal((10 ** 12,) * count, budget), False)
                    self.assertIs(is_minimal((0,) * count, budget), False)
                    for at in (0, count - 1):
                        self.assertIs(is_minimal(with_part(right, at, right[at] + 1), budget), False)
                        self.assertIs(is_minimal(with_part(right, at, right[at] - 1), budget), False)

    def test_the_total_alone_is_not_enough(self):
        self.assertIs(is_minimal((1, 4), 2), False)
        self.assertIs(is_minimal((2, 2, 5), 2), False)
        self.assertIs(is_minimal((0, threshold(2, 10 ** 6)), 10 ** 6), False)


class NumbersTest(unittest.TestCase):
    def test_all_of_the_total(self):
        for count, budget in SIZES:
            right = right_ones(count, budget)
            with self.subTest(count=count, budget=budget):
                self.assertEqual(count_minimal(count, budget), len(right))
                self.assertTrue(is_plain(count_minimal(count, budget)))
                self.assertTrue(all(minimal_by_definition(balances, budget) for balances in right))
                self.assertEqual(right, sorted(set(right)))

    def test_each_number(self):
        for count, budget in SIZES:
            right = right_ones(count, budget)
            for number in list(range(min(len(right), 30))) + list(range(max(0, len(right) - 30), len(right))):
                with self.subTest(count=count, budget=budget, number=number):
                    self.assertEqual(minimal_at(count, budget, number), right[number])
                    self.assertTrue(is_plain(minimal_at(count, budget, number)))
                    self.assertEqual(number_of(right[number], budget), number)
                    self.assertTrue(is_plain(number_of(right[number], budget)))

    def test_written_out(self):
        self.assertEqual([count_minimal(count, 1) for count in range(1, 6)], [1, 1, 1, 1, 1])
        self.assertEqual([count_minimal(1, budget) for budget in range(1, 4)], [1, 1, 1])
        self.assertEqual(count_minimal(3, 2), 7)
        self.assertEqual(
            [minimal_at(3, 2, number) for number in range(7)],
            [(2, 3, 4), (2, 4, 3), (3, 2, 4), (3, 3, 3), (3, 4, 2), (4, 2, 3), (4, 3, 2)],
        )
        self.assertEqual(minimal_at(5, 3, 0), steps(5, 3))
        self.assertEqual(minimal_at(5, 3, count_minimal(5, 3) - 1), steps(5, 3)[::-1])

    def test_somewhat_beyond_the_limits(self):
        self.assertEqual(minimal_at(6, 4, 0), steps(6, 4))
        self.assertEqual(number_of((7,), 7), 0)

    def bad_number(self, count, budget, number):
        with self.assertRaises(BadNumber) as caught:
            minimal_at(count, budget, number)
        self.assertIs(caught.exception.value, number)
        self.assertIsInstance(caught.exception, CreditError)

    def test_bad_number(self):
        for number in ODD_THINGS + (
            -1, -2, 2, 3, 10 ** 30, -10 ** 30, "1", b"1", (1,), [1], {1: 1}, ((1,),), (0, 1), [[0]],
        ):
            with self.subTest(repr(number)):
                self.bad_number(2, 2, number)

    def test_bad_number_just_behind_the_last(self):
        for count, budget in SIZES:
            with self.subTest(count=count, budget=budget):
                self.bad_number(count, budget, count_minimal(count, budget))
                self.bad_number(count, budget, -1)
                self.bad_number(count, budget, True)
                self.bad_number(count, budget, False)

    def test_not_minimal(self):
        for balances, budget in NOT_MINIMAL:
            with self.subTest(balances=balances, budget=budget):
                with self.assertRaises(NotMinimal) as caught:
                    number_of(balances, budget)
                self.assertEqual(caught.exception.value, balances)
                self.assertIsInstance(caught.exception, CreditError)

    def test_not_minimal_of_small_ones(self):
        for balances in itertools.product(range(6), repeat=3):
            if not minimal_by_definition(balances, 2):
                with self.subTest(balances):
                    with self.assertRaises(NotMinimal) as caught:
                        number_of(balances, 2)
                    self.assertEqual(caught.exception.value, balances)


class InterfaceTest(unittest.TestCase):
    def test_defined_in_the_file(self):
        for name in ("is_minimal", "count_minimal", "minimal_at", "number_of"):
            with self.subTest(name):
                self.assertEqual(getattr(module, name).__module__, "creditfloor.minimal")

    def test_parameters(self):
        self.assertEqual(parameters(is_minimal), ("balances", "budget"))
        self.assertEqual(parameters(count_minimal), ("count", "budget"))
        self.assertEqual(parameters(minimal_at), ("count", "budget", "number"))
        self.assertEqual(parameters(number_of), ("balances", "budget"))

    def test_by_name(self):
        self.assertIs(is_minimal(budget=2, balances=(4, 2, 3)), True)
        self.assertEqual(count_minimal(budget=2, count=3), 7)
        self.assertEqual(minimal_at(number=1, budget=2, count=3), (2, 4, 3))
        self.assertEqual(number_of(budget=2, balances=(3, 2)), 1)

    def test_arguments_stay(self):
        balances, number = (4, 2, 3), [1, [2]]
        is_minimal(balances, 2)
        number_of(balances, 2)
        self.assertRaises(BadNumber, minimal_at, 3, 2, number)
        self.assertEqual((balances, number), ((4, 2, 3), [1, [2]]))


if __name__ == "__main__":
    unittest.main()
