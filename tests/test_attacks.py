"""Points [2], [3], [4] (c), [13] and [14]."""

import functools
import unittest

from creditfloor import attacks as module
from creditfloor.attacks import attack, attack_limit, progress, shows_attack
from creditfloor.errors import AlreadySafe
from creditfloor.grants import best_grant
from creditfloor.safety import gap, is_safe
from creditfloor.thresholds import steps, threshold
from creditfloor.ticks import is_demand, stalled
from tests.helpers import (
    ODD_THINGS, Odd, demands_of, grants_after, is_plain, lcg, minus, nested, parameters, small_cases,
    splits, tuples,
)

# With 3 senders D is above 0 only for budgets from 4 on, with 4 senders from 3 on.
SMALL = (
    (1, 1), (1, 2), (1, 5), (2, 1), (2, 2), (2, 3), (2, 5), (3, 1), (3, 2), (3, 3), (3, 4), (3, 5), (4, 1), (4, 2),
    (4, 3),
)


def great_cases():
    """Balances of many senders that are not safe, with their budgets."""
    numbers = lcg(7)
    for count, budget in ((5, 3), (8, 10), (20, 1), (20, 999), (39, 7), (40, 2), (40, 10 ** 5), (40, 10 ** 6)):
        right = steps(count, budget)
        for _ in range(12):
            size = next(numbers) % count + 1
            level = threshold(size, budget) // size
            parts = [max(0, level + next(numbers) % 3 - 1) for _ in range(size)]
            parts += [part + next(numbers) % (3 * budget) for part in right[size:]]
            order = sorted(range(count), key=lambda at: next(numbers))
            yield tuple(parts[at] for at in order), budget
        for at in (0, count // 2, count - 1):
            yield right[:at] + (right[at] - 1,) + right[at + 1:], budget
        yield (0,) * count, budget
        yield (10 ** 12,) * (count - 1) + (0,), budget


def progress_by_definition(balances, budget):
    ordered = sorted(balances)
    for k in range(1, len(ordered) + 1):
        held = sum(ordered[:k])
        if held < threshold(k, budget):
            p = (held - budget) // k
            return (k, held, sum(p - b for b in ordered[:k] if b < p))
    return None


def shows_by_definition(balances, budget, demand):
    if any(spent > balance for spent, balance in zip(demand, balances)):
        return True
    before = progress_by_definition(balances, budget)
    if before is None:
        return False
    for after in grants_after(balances, demand, budget):
        now = progress_by_definition(after, budget)
        if now is None or not now < before:
            return False
    return True


@functools.lru_cache(maxsize=None)
def ticks_of_attack(balances, budget):
    """The ticks up to the stall, the tick of the stall counted, against the grants that last longest."""
    demand = attack(balances, budget)
    if stalled(balances, demand):
        return 1
    return 1 + max(ticks_of_attack(after, budget) for after in grants_after(balances, demand, budget))


class ProgressTest(unittest.TestCase):
    def test_example(self):
        self.assertEqual(
            (attack((2, 2, 9), 2), progress((2, 2, 9), 2), shows_attack((2, 2, 9), 2, (2, 0, 0))),
            ((1, 1, 0), (2, 4, 0), False),
        )

    def test_by_definition(self):
        for balances, budget in small_cases(SMALL):
            with self.subTest(balances=balances, budget=budget):
                self.assertEqual(progress(balances, budget), progress_by_definition(balances, budget))
                self.assertTrue(is_plain(progress(balances, budget)))

    def test_by_definition_of_many(self):
        for balances, budget in great_cases():
            with self.subTest(balances=balances, budget=budget):
                self.assertEqual(progress(balances, budget), progress_by_definition(balances, budget))

    def test_written_out(self):
        self.assertEqual(progress((1,), 2), (1, 1, 0))
        self.assertEqual(progress((0,), 10 ** 6), (1, 0, 0))
        self.assertEqual(progress((3, 6, 3), 3), (2, 6, 0))
        # R(3) is 53 and p is (52 - 10) // 3 = 14, of which only the first sender lacks some.
        self.assertEqual(progress((10, 19, 23), 10), (3, 52, 4))
        self.assertEqual(progress((23, 19, 10), 10), (3, 52, 4))
        self.assertEqual(progress((90, 23, 19, 10), 10), (3, 52, 4))

    def test_safe(self):
        for balances, budget in (((1,), 1), ((2, 3, 4), 2), ((10 ** 12,) * 40, 10 ** 6), (steps(40, 7), 7)):
            with self.subTest(balances):
                self.assertIsNone(progress(balances, budget))

    def test_the_cases_have_senders_below_the_level(self):
        for cases in (small_cases(SMALL), great_cases()):
            found = {progress(balances, budget)[2] > 0 for balances, budget in cases if gap(balances, budget)}
            self.assertEqual(found, {True, False})


class AttackTest(unittest.TestCase):
    def check(self, balances, budget):
        demand = attack(balances, budget)
        self.assertIs(is_demand(demand, len(balances), budget), True)
        self.assertTrue(is_plain(demand))
        self.assertIs(shows_attack(balances, budget, demand), True)
        self.assertTrue(shows_by_definition(balances, budget, demand))
        if stalled(balances, demand) == ():
            self.assertEqual(sum(demand), budget)

    def test_not_safe(self):
        for balances, budget in small_cases(SMALL):
            if not is_safe(balances, budget):
                with self.subTest(balances=balances, budget=budget):
                    self.check(balances, budget)

    def test_not_safe_of_many(self):
        checked = 0
        for balances, budget in great_cases():
            if not is_safe(balances, budget):
                with self.subTest(balances=balances, budget=budget):
                    self.check(balances, budget)
                    checked += 1
        self.assertGreater(checked, 80)

    def test_a_single_weak_sender_stalls(self):
        for balances, budget in (((0,), 1), ((1,), 2), ((9, 1), 2), ((10 ** 12,) * 39 + (10 ** 6 - 1,), 10 ** 6)):
            with self.subTest(balances):
                demand = attack(balances, budget)
                self.assertEqual(stalled(balances, demand), (len(balances) - 1,))

    def test_safe(self):
        for balances, budget in small_cases(SMALL) + [((10 ** 12,) * 40, 10 ** 6), (steps(40, 7), 7)]:
            if is_safe(balances, budget):
                with self.subTest(balances=balances, budget=budget):
                    with self.assertRaises(AlreadySafe) as caught:
                        attack(balances, budget)
                    self.assertIs(type(caught.exception), AlreadySafe)
                    self.assertFalse(hasattr(caught.exception, "value"))

    def test_equal_calls_return_equal_results(self):
        for balances, budget in great_cases():
            if not is_safe(balances, budget):
                self.assertEqual(attack(balances, budget), attack(balances, budget))


class ShowsAttackTest(unittest.TestCase):
    def test_all_demands(self):
        for count, budget in ((1, 1), (1, 3), (2, 1), (2, 2), (2, 3), (3, 1), (3, 2), (3, 3), (3, 4)):
            for balances in tuples(count, steps(count, budget)[-1] + 1):
                for demand in demands_of(count, budget):
                    with self.subTest(balances=balances, budget=budget, demand=demand):
                        found = shows_attack(balances, budget, demand)
                        self.assertIs(found, shows_by_definition(balances, budget, demand))

    def test_safe_balances(self):
        for balances, budget in small_cases(SMALL):
            if is_safe(balances, budget):
                for demand in demands_of(len(balances), budget):
                    with self.subTest(balances=balances, budget=budget, demand=demand):
                        self.assertIs(shows_attack(balances, budget, demand), False)

    def test_not_a_demand(self):
        # Each sender has nothing, so every demand but (0, 0) is one with a stall.
        for thing in ODD_THINGS + (
            (1,), (1, 0, 0), (2, 1), (3, 0), (-1, 1), (3, -1), (1, -1), [1, 1], "11", b"11", {0: 1, 1: 1}, None,
            (True, False), (1, True), (False, 1), ("1", "1"), ((1, 1),), (1, (1,)), (None, 1), nested(30), (Odd(), 1),
            0, 1, 2, 10 ** 30, (10 ** 30, 0),
        ):
            with self.subTest(repr(thing)):
                self.assertIs(shows_attack((0, 0), 2, thing), False)
                self.assertIs(shows_attack((9, 9), 2, thing), False)
                self.assertIs(shows_attack((2, 2), 2, thing), False)

    def test_a_stall(self):
        for demand in ((1, 0), (0, 1), (1, 1), (2, 0), (0, 2)):
            with self.subTest(demand):
                self.assertIs(shows_attack((0, 0), 2, demand), True)
        self.assertIs(shows_attack((1, 9), 2, (2, 0)), True)
        self.assertIs(shows_attack((1, 9), 2, (0, 2)), False)

    def test_less_than_the_budget_without_a_stall(self):
        self.assertIs(shows_attack((2, 2, 9), 2, (0, 0, 0)), False)
        self.assertIs(shows_attack((2, 2, 9), 2, (1, 0, 0)), False)
        self.assertIs(shows_attack((2, 2, 9), 2, (1, 1, 0)), True)
        self.assertIs(shows_attack((2, 2, 9), 2, (0, 1, 1)), False)

    def test_one_and_40_senders(self):
        self.assertIs(shows_attack((1,), 2, (2,)), True)
        self.assertIs(shows_attack((1,), 2, (1,)), False)
        self.assertIs(shows_attack((0,) * 40, 10 ** 6, (0,) * 39 + (1,)), True)
        self.assertIs(shows_attack((0,) * 40, 10 ** 6, (0,) * 40), False)
        self.assertIs(shows_attack((10 ** 12,) * 40, 10 ** 6, (10 ** 6,) + (0,) * 39), False)

    def test_the_thing_stays(self):
        thing = [1, [1], {2: 3}]
        shows_attack((0, 0), 2, thing)
        self.assertEqual(thing, [1, [1], {2: 3}])


class AttackLimitTest(unittest.TestCase):
    def test_example(self):
        self.assertEqual((attack_limit(1, 2), attack_limit(2, 2), attack_limit(3, 2)), (1, 5, 14))

    def test_sum(self):
        for budget in (1, 2, 3, 4, 10, 999, 10 ** 6):
            for size in range(1, 41):
                with self.subTest(size=size, budget=budget):
                    right = 1 + sum(
                        threshold(j, budget) // budget + threshold(j - 1, budget) for j in range(2, size + 1)
                    )
                    self.assertEqual(attack_limit(size, budget), right)
                    self.assertTrue(is_plain(attack_limit(size, budget)))

    def test_against_all_grants(self):
        for count, budget in SMALL + ((3, 10), (4, 4)):
            for total in range(threshold(count, budget) + 3):
                for balances in splits(count, total):
                    if not is_safe(balances, budget):
                        with self.subTest(balances=balances, budget=budget):
                            most = attack_limit(gap(balances, budget)[0], budget)
                            self.assertLessEqual(ticks_of_attack(balances, budget), most)

    def test_totals_above_what_is_needed(self):
        for balances, budget in (
            ((2, 2, 50), 2), ((50, 2, 2), 2), ((2, 3, 3, 50), 2), ((3, 4, 50), 3), ((3, 5, 5, 9), 3), ((1, 0, 9, 9), 1),
        ):
            with self.subTest(balances=balances, budget=budget):
                most = attack_limit(gap(balances, budget)[0], budget)
                self.assertLessEqual(ticks_of_attack(balances, budget), most)

    def test_many_senders_against_some_grants(self):
        for count, budget in ((10, 3), (20, 2), (40, 2)):
            start = steps(count, budget)[:-1] + (steps(count, budget)[-1] - 1,)
            numbers = lcg(count)
            for choose in (best_grant, lambda left: next(numbers) % len(left), lambda left: len(left) - 1):
                with self.subTest(count=count, budget=budget):
                    most = attack_limit(gap(start, budget)[0], budget)
                    self.assertLessEqual(ticks_against(start, budget, choose, most), most)


def ticks_against(balances, budget, choose, most):
    """The ticks up to the stall if choose makes the grants, or most + 1 if there is none by then."""
    for tick in range(1, most + 1):
        demand = attack(balances, budget)
        if stalled(balances, demand):
            return tick
        sender = choose(minus(balances, demand))
        balances = grants_after(balances, demand, budget)[sender]
    return most + 1


class InterfaceTest(unittest.TestCase):
    def test_defined_in_the_file(self):
        for name in ("progress", "attack", "shows_attack", "attack_limit"):
            with self.subTest(name):
                self.assertEqual(getattr(module, name).__module__, "creditfloor.attacks")

    def test_parameters(self):
        self.assertEqual(parameters(progress), ("balances", "budget"))
        self.assertEqual(parameters(attack), ("balances", "budget"))
        self.assertEqual(parameters(shows_attack), ("balances", "budget", "thing"))
        self.assertEqual(parameters(attack_limit), ("size", "budget"))

    def test_by_name(self):
        self.assertEqual(progress(budget=2, balances=(2, 2, 9)), (2, 4, 0))
        self.assertEqual(attack(budget=2, balances=(2, 2, 9)), (1, 1, 0))
        self.assertIs(shows_attack(thing=(1, 1, 0), budget=2, balances=(2, 2, 9)), True)
        self.assertEqual(attack_limit(budget=2, size=3), 14)

    def test_arguments_stay(self):
        balances, demand = (2, 2, 9), (1, 1, 0)
        progress(balances, 2)
        attack(balances, 2)
        shows_attack(balances, 2, demand)
        self.assertEqual((balances, demand), ((2, 2, 9), (1, 1, 0)))


if __name__ == "__main__":
    unittest.main()
