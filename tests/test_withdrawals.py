"""Points [2], [3], [4] (d), [17] and [18]."""

import functools
import unittest

from creditfloor import withdrawals as module
from creditfloor.errors import CreditError, NotSafe
from creditfloor.safety import is_safe, slack
from creditfloor.thresholds import steps
from creditfloor.withdrawals import shows_upper_bound, upper_bound, withdrawal_value, withdrawn
from tests.helpers import (
    ODD_THINGS, Odd, dearest_first, first_weak_set, is_plain, lcg, nested, parameters, subsets, tuples, with_part,
)

ROWS = ((1, (1,)), (1, (1, 2)), (1, (0, 1, 2)))
BALANCES = (4, 4, 4)
VALUES = (1, 3, 2)
SMALL = ((1, 1, 2), (1, 3, 2), (2, 1, 3), (2, 2, 3), (2, 3, 3), (3, 1, 2), (3, 2, 2))


@functools.lru_cache(maxsize=None)
def safe_ones(count, budget):
    """All safe balances up to somewhat above what each sender needs."""
    return [other for other in tuples(count, steps(count, budget)[-1] + 2) if is_safe(other, budget)]


def small_cases():
    """Small safe balances, values and budgets."""
    for count, budget, dearest in SMALL:
        for balances in safe_ones(count, budget):
            for values in tuples(count, dearest):
                yield balances, values, budget


def great_cases():
    """Safe balances and values of many senders, with their budgets."""
    numbers = lcg(17)
    for count, budget in ((4, 3), (5, 10), (7, 2), (12, 100), (39, 3), (40, 1), (40, 7), (40, 10 ** 6)):
        right = steps(count, budget)
        for dearest in (0, 1, 5, 10 ** 12):
            for above in (1, 3 * right[-1], 10 ** 11):
                parts = [part + next(numbers) % above for part in right]
                order = sorted(range(count), key=lambda at: next(numbers))
                values = tuple(next(numbers) * 999999937 % (dearest + 1) for _ in range(count))
                yield tuple(parts[at] for at in order), values, budget
        yield (10 ** 12,) * count, (10 ** 12,) * count, budget
        yield (10 ** 12,) * count, (0,) * count, budget
        yield right, tuple(range(count)), budget
        yield right[::-1], (7,) * count, budget


def unsafe_cases():
    """Balances that are not safe, with their budgets."""
    for count, budget, _ in SMALL:
        for balances in tuples(count, steps(count, budget)[-1] + 1):
            if first_weak_set(balances, budget) is not None:
                yield balances, budget
    for budget in (1, 7, 10 ** 6):
        right = steps(40, budget)
        for at in (0, 1, 20, 39):
            yield with_part(right, at, right[at] - 1), budget
        yield (10 ** 12,) * 39 + (budget - 1,), budget


def worth(balances, values, other):
    return sum(value * (before - after) for before, value, after in zip(balances, values, other))


def greatest_worth(balances, values, budget):
    """The greatest value of a withdrawal that leaves safe balances, by trying them all."""
    return max(
        worth(balances, values, other)
        for other in safe_ones(len(balances), budget)
        if all(after <= before for before, after in zip(balances, other))
    )


class WithdrawnTest(unittest.TestCase):
    def test_example(self):
        self.assertEqual(
            (withdrawn((4, 4, 4), (1, 3, 2), 2), withdrawal_value((4, 4, 4), (1, 3, 2), (4, 2, 3))), ((4, 2, 3), 8)
        )

    def test_written_out(self):
        for balances, values, budget, right in (
            ((5,), (0,), 5, (5,)), ((9,), (3,), 5, (5,)), ((9,), (0,), 5, (5,)), ((10 ** 12,), (10 ** 12,), 1, (1,)),
            ((4, 4, 4), (0, 0, 0), 2, (2, 3, 4)), ((4, 4, 4), (7, 7, 7), 2, (2, 3, 4)),
            ((4, 4, 4), (1, 2, 3), 2, (4, 3, 2)), ((4, 4, 4), (1, 2, 1), 2, (3, 2, 4)),
            ((3, 3, 3), (1, 2, 3), 2, (3, 3, 3)), ((9, 3, 3), (0, 1, 1), 2, (4, 2, 3)),
            ((9, 3, 3), (1, 0, 0), 2, (3, 3, 3)), ((10 ** 12,) * 40, (1,) * 40, 10 ** 6, steps(40, 10 ** 6)),
            ((10 ** 12,) * 40, tuple(range(40)), 7, steps(40, 7)[::-1]),
            (steps(40, 7), tuple(range(40)), 7, steps(40, 7)),
        ):
            with self.subTest(balances=balances, values=values, budget=budget):
                self.assertEqual(withdrawn(balances, values, budget), right)

    def check(self, balances, values, budget):
        found = withdrawn(balances, values, budget)
        self.assertTrue(is_plain(found))
        self.assertEqual(len(found), len(balances))
        self.assertTrue(all(after <= before for before, after in zip(balances, found)))
        self.assertIsNone(first_weak_set(found, budget))
        held = balances
        for sender in dearest_first(values):
            held = with_part(held, sender, found[sender])
            self.assertIsNone(first_weak_set(held, budget))
            self.assertIsNotNone(first_weak_set(with_part(held, sender, found[sender] - 1), budget))

    def test_by_definition(self):
        for balances, values, budget in small_cases():
            with self.subTest(balances=balances, values=values, budget=budget):
                self.check(balances, values, budget)

    def test_by_definition_of_many(self):
        for balances, values, budget in great_cases():
            with self.subTest(balances=balances, values=values, budget=budget):
                self.check(balances, values, budget)

    def test_none_is_worth_more(self):
        for balances, values, budget in small_cases():
            with self.subTest(balances=balances, values=values, budget=budget):
                found = worth(balances, values, withdrawn(balances, values, budget))
                self.assertEqual(found, greatest_worth(balances, values, budget))

    def test_not_safe(self):
        for function in (withdrawn, upper_bound):
            for balances, budget in unsafe_cases():
                with self.subTest(function=function, balances=balances, budget=budget):
                    with self.assertRaises(NotSafe) as caught:
                        function(balances, (1,) * len(balances), budget)
                    self.assertEqual(caught.exception.value, first_weak_set(balances, budget))
                    self.assertIsInstance(caught.exception, CreditError)


class WithdrawalValueTest(unittest.TestCase):
    def test_sum(self):
        for balances in tuples(2, 3):
            for values in tuples(2, 3):
                for other in tuples(2, 3):
                    with self.subTest(balances=balances, values=values, other=other):
                        right = values[0] * (balances[0] - other[0]) + values[1] * (balances[1] - other[1])
                        self.assertEqual(withdrawal_value(balances, values, other), right)

    def test_written_out(self):
        self.assertEqual(withdrawal_value((5,), (7,), (5,)), 0)
        self.assertEqual(withdrawal_value((9,), (0,), (5,)), 0)
        self.assertEqual(withdrawal_value((10 ** 12,) * 40, (10 ** 12,) * 40, (0,) * 40), 40 * 10 ** 24)
        self.assertTrue(is_plain(withdrawal_value((4, 4, 4), (1, 3, 2), (4, 2, 3))))


class UpperBoundTest(unittest.TestCase):
    def check(self, balances, values, budget):
        value = worth(balances, values, withdrawn(balances, values, budget))
        rows = upper_bound(balances, values, budget)
        self.assertTrue(is_plain(rows))
        self.assertIs(shows_upper_bound(balances, values, budget, value, rows), True)
        self.assertIs(shows_upper_bound(balances, values, budget, value + 1, rows), False)
        self.assertIs(shows_upper_bound(balances, values, budget, value - 1, rows), False)
        self.assertEqual(len({senders for _, senders in rows}), len(rows))
        self.assertTrue(all(multiplier >= 1 and senders for multiplier, senders in rows))
        for at, worthy in enumerate(values):
            self.assertGreaterEqual(sum(multiplier for multiplier, senders in rows if at in senders), worthy)
        self.assertEqual(sum(multiplier * slack(balances, budget, senders) for multiplier, senders in rows), value)

    def test_small(self):
        for balances, values, budget in small_cases():
            with self.subTest(balances=balances, values=values, budget=budget):
                self.check(balances, values, budget)

    def test_many(self):
        for balances, values, budget in great_cases():
            with self.subTest(balances=balances, values=values, budget=budget):
                self.check(balances, values, budget)

    def test_nothing_to_withdraw_and_no_values(self):
        for balances, values, budget in (
            ((2, 3, 4), (5, 1, 3), 2), ((9,), (1,), 9), (steps(40, 10 ** 6), (10 ** 12,) * 40, 10 ** 6),
            ((4, 4, 4), (0, 0, 0), 2), ((10 ** 12,) * 40, (0,) * 40, 10 ** 6),
        ):
            with self.subTest(balances=balances, values=values):
                self.check(balances, values, budget)
                rows = upper_bound(balances, values, budget)
                self.assertIs(shows_upper_bound(balances, values, budget, 0, rows), True)

    def test_one_set_for_several_values(self):
        # All senders together have nothing to spare, whatever the first of them are.
        self.check((2, 3, 4, 4), (9, 7, 4, 1), 2)
        self.check(steps(40, 10 ** 6)[::-1], tuple(range(40, 0, -1)), 10 ** 6)


class ShowsUpperBoundTest(unittest.TestCase):
    def shows(self, amount, thing):
        return shows_upper_bound(BALANCES, VALUES, 2, amount, thing)

    def test_example(self):
        rows = ((1, (1,)), (1, (1, 2)), (1, (0, 1, 2)))
        self.assertEqual(
            (
                shows_upper_bound((4, 4, 4), (1, 3, 2), 2, 8, rows),
                shows_upper_bound((4, 4, 4), (1, 3, 3), 2, 8, rows),
            ),
            (True, False),
        )

    def test_another_amount(self):
        for amount in (-8, -1, 0, 1, 7, 9, 10 ** 30, -10 ** 30):
            with self.subTest(amount):
                self.assertIs(self.shows(amount, ROWS), False)

    def test_amount_of_anything(self):
        for amount in ODD_THINGS + ("8", b"8", (8,), [8], {8: 8}, nested(30), Odd()):
            with self.subTest(repr(amount)):
                self.assertIs(self.shows(amount, ROWS), False)
                self.assertIs(self.shows(amount, ()), False)
                self.assertIs(self.shows(amount, amount), False)

    def test_booleans_as_amount(self):
        self.assertIs(shows_upper_bound((3,), (1,), 2, 1, ((1, (0,)),)), True)
        self.assertIs(shows_upper_bound((3,), (1,), 2, True, ((1, (0,)),)), False)
        self.assertIs(shows_upper_bound((2,), (1,), 2, 0, ((1, (0,)),)), True)
        self.assertIs(shows_upper_bound((2,), (1,), 2, False, ((1, (0,)),)), False)
        self.assertIs(shows_upper_bound((2,), (0,), 2, False, ()), False)

    def test_no_rows(self):
        self.assertIs(shows_upper_bound((4, 4), (0, 0), 2, 0, ()), True)
        self.assertIs(shows_upper_bound((4, 4), (0, 0), 2, 1, ()), False)
        self.assertIs(shows_upper_bound((4, 4), (0, 1), 2, 0, ()), False)

    def test_thing_of_anything(self):
        for thing in ODD_THINGS + (
            [], list(ROWS), [(1, (0,))], (list(ROWS[0]), *ROWS[1:]), ((1, [1]), *ROWS[1:]), (ROWS,), ROWS[0],
            (*ROWS, None), (*ROWS, ()), ((), *ROWS), ((),), ((1,),), ((1, (1,), 1), *ROWS[1:]), (((1,), 1), *ROWS[1:]),
            "rows", ("1", (0,)), dict(ROWS), {ROWS: 1}, set(ROWS), (*ROWS, (1, 0)), (*ROWS, (1, None)),
            (*ROWS, (1, "0")), (*ROWS, (1, {0: 1})), (*ROWS, (1, ((0,),))), (*ROWS, (None, (0,))),
            (*ROWS, ("1", (0,))), (*ROWS, ((1,), (0,))), (*ROWS, ([1], (0,))), (*ROWS, (1, (Odd(),))),
            (*ROWS, (Odd(), (0,))), (*ROWS, Odd()), (*ROWS, (1, Odd())), (*ROWS, (1, nested(28))), nested(30),
            iter(ROWS), 0, 8,
        ):
            for amount in (0, 8, 10):
                with self.subTest(thing=repr(thing), amount=amount):
                    self.assertIs(self.shows(amount, thing), False)

    def test_multipliers(self):
        # With the budget 4 the set (0,) has the slack 0, so a row with it adds nothing to the amount.
        for multiplier, right in (
            (1, True), (2, True), (10 ** 30, True), (0, False), (-1, False), (True, False), (False, False),
            (None, False), ("1", False), ((1,), False), (-10 ** 30, False),
        ):
            with self.subTest(repr(multiplier)):
                self.assertIs(shows_upper_bound((4, 9), (1, 1), 4, 2, ((1, (0, 1)), (multiplier, (0,)))), right)
                self.assertIs(shows_upper_bound((4, 9), (1, 1), 4, 2, ((multiplier, (0,)), (1, (0, 1)))), right)

    def test_senders(self):
        # Without values any row is enough; the slacks are 2 for one sender and 3 for two or three of them.
        for senders, right in (
            ((0,), 2), ((1,), 2), ((2,), 2), ((0, 1), 3), ((0, 2), 3), ((1, 2), 3), ((0, 1, 2), 3), ((), None),
            ((1, 0), None), ((2, 0), None), ((0, 0), None), ((0, 1, 1), None), ((2, 1, 0), None), ((0, 2, 1), None),
            ((3,), None), ((0, 3), None), ((-1,), None), ((-1, 0), None), ((-3, -2), None), ((True,), None),
            ((False,), None), ((0, True), None), ((False, 1), None), ([0], None), ([0, 1], None), (0, None),
            (None, None), ("0", None), ({0: 1}, None), (((0,),), None), ((0, (1,)), None), (range(2), None),
        ):
            for amount in (-2, 0, 1, 2, 3, 4, 5, 8):
                with self.subTest(senders=repr(senders), amount=amount):
                    found = shows_upper_bound(BALANCES, (0, 0, 0), 2, amount, ((1, senders),))
                    self.assertIs(found, right is not None and amount == right)

    def test_the_same_senders_twice(self):
        self.assertIs(shows_upper_bound((4, 4), (2, 2), 2, 6, ((2, (0, 1)),)), True)
        self.assertIs(shows_upper_bound((4, 4), (2, 2), 2, 6, ((1, (0, 1)), (1, (0, 1)))), False)
        self.assertIs(shows_upper_bound((4, 4), (2, 2), 2, 9, ((1, (0, 1)), (2, (0, 1)))), False)
        self.assertIs(shows_upper_bound((4, 4), (2, 2), 2, 8, ((1, (0, 1)), (1, (0,)), (1, (0, 1)))), False)
        self.assertIs(shows_upper_bound((4, 4), (2, 2), 2, 7, ((1, (0, 1)), (1, (0,)), (1, (1,)))), True)

    def test_the_order_of_the_rows(self):
        self.assertIs(self.shows(8, ROWS[::-1]), True)

    def test_sums_and_values(self):
        for values, right in (
            ((1, 3, 2), True), ((0, 3, 2), True), ((2, 3, 2), False), ((1, 4, 2), False), ((1, 3, 3), False),
            ((0, 0, 0), True), ((10 ** 12,) * 3, False),
        ):
            with self.subTest(values):
                self.assertIs(shows_upper_bound(BALANCES, values, 2, 8, ROWS), right)

    def test_balances_that_are_not_safe(self):
        # Nothing is raised: the conditions are looked at as they stand, with slacks below 0.
        self.assertIs(shows_upper_bound((0, 9), (1, 0), 2, -2, ((1, (0,)),)), True)
        self.assertIs(shows_upper_bound((0, 9), (1, 0), 2, 2, ((1, (0,)),)), False)

    def test_never_below_the_greatest_value(self):
        choices = subsets(range(3))
        numbers = lcg(5)
        accepted = 0
        for balances, values, budget in small_cases():
            if len(balances) == 3 and next(numbers) % 8 == 0:
                some = sorted({next(numbers) % 7 for _ in range(4)})
                rows = tuple((next(numbers) % 2 + 1, choices[at]) for at in some)
                amount = sum(multiplier * slack(balances, budget, senders) for multiplier, senders in rows)
                fits = all(sum(m for m, senders in rows if at in senders) >= values[at] for at in range(3))
                with self.subTest(balances=balances, values=values, budget=budget, rows=rows):
                    self.assertIs(shows_upper_bound(balances, values, budget, amount, rows), fits)
                    if fits:
                        accepted += 1
                        self.assertGreaterEqual(amount, greatest_worth(balances, values, budget))
        self.assertGreater(accepted, 20)

    def test_the_things_stay(self):
        amount, thing = [8], [[1, [1]], {1: (0, 1, 2)}]
        shows_upper_bound(BALANCES, VALUES, 2, amount, thing)
        shows_upper_bound(BALANCES, VALUES, 2, 8, thing)
        self.assertEqual((amount, thing), ([8], [[1, [1]], {1: (0, 1, 2)}]))


class InterfaceTest(unittest.TestCase):
    def test_defined_in_the_file(self):
        for name in ("withdrawn", "withdrawal_value", "upper_bound", "shows_upper_bound"):
            with self.subTest(name):
                self.assertEqual(getattr(module, name).__module__, "creditfloor.withdrawals")

    def test_parameters(self):
        self.assertEqual(parameters(withdrawn), ("balances", "values", "budget"))
        self.assertEqual(parameters(withdrawal_value), ("balances", "values", "other"))
        self.assertEqual(parameters(upper_bound), ("balances", "values", "budget"))
        self.assertEqual(parameters(shows_upper_bound), ("balances", "values", "budget", "amount", "thing"))

    def test_by_name(self):
        self.assertEqual(withdrawn(budget=2, values=VALUES, balances=BALANCES), (4, 2, 3))
        self.assertEqual(withdrawal_value(other=(4, 2, 3), values=VALUES, balances=BALANCES), 8)
        self.assertEqual(upper_bound(budget=2, values=VALUES, balances=BALANCES), upper_bound(BALANCES, VALUES, 2))
        self.assertIs(shows_upper_bound(thing=ROWS, amount=8, budget=2, values=VALUES, balances=BALANCES), True)

    def test_arguments_stay(self):
        balances, values, rows = (4, 4, 4), (1, 3, 2), ((1, (1,)), (1, (1, 2)), (1, (0, 1, 2)))
        withdrawn(balances, values, 2)
        withdrawal_value(balances, values, (4, 2, 3))
        upper_bound(balances, values, 2)
        shows_upper_bound(balances, values, 2, 8, rows)
        self.assertEqual((balances, values, rows), (BALANCES, VALUES, ROWS))


if __name__ == "__main__":
    unittest.main()
