"""Points [2], [3], [4] (d), [15] and [16]."""

import functools
import unittest

from creditfloor import prices as module
from creditfloor.prices import lower_bound, raise_cost, raised, shows_lower_bound
from creditfloor.safety import is_safe, slack
from creditfloor.thresholds import steps, threshold
from tests.helpers import ODD_THINGS, Odd, dearest_first, is_plain, lcg, nested, parameters, subsets, tuples, with_part

ROWS = ((2, (0, 2)), (1, (0, 1, 2)))
SMALL = ((1, 1, 2), (1, 3, 2), (2, 1, 3), (2, 2, 3), (2, 3, 3), (3, 1, 2), (3, 2, 2))


def small_cases():
    """Small balances, prices and budgets."""
    for count, budget, dearest in SMALL:
        for balances in tuples(count, steps(count, budget)[-1]):
            for prices in tuples(count, dearest):
                yield balances, prices, budget


def great_cases():
    """Balances and prices of many senders, with their budgets."""
    numbers = lcg(11)
    for count, budget in ((4, 3), (5, 10), (7, 2), (12, 100), (39, 3), (40, 1), (40, 7), (40, 10 ** 6)):
        most = 2 * steps(count, budget)[-1]
        for dearest in (0, 1, 5, 10 ** 12):
            for _ in range(4):
                balances = tuple(next(numbers) % (most + 1) for _ in range(count))
                prices = tuple(next(numbers) * 999999937 % (dearest + 1) for _ in range(count))
                yield balances, prices, budget
        yield (0,) * count, tuple(range(count)), budget
        yield (0,) * count, (10 ** 12,) * count, budget
        yield (10 ** 12,) * count, (10 ** 12,) * count, budget
        yield steps(count, budget), tuple(range(count)), budget
        yield steps(count, budget)[::-1], tuple(range(count)), budget


def has_weak_set(balances, senders, budget):
    return any(sum(balances[at] for at in some) < threshold(len(some), budget) for some in subsets(senders))


@functools.lru_cache(maxsize=None)
def safe_ones(count, budget):
    """All safe balances up to what no cheapest safe balances need to pass."""
    return [other for other in tuples(count, steps(count, budget)[-1] + 1) if is_safe(other, budget)]


def least_cost(balances, prices, budget):
    """The least cost of safe balances above the given ones, by trying them all."""
    return min(
        sum(price * (after - before) for before, price, after in zip(balances, prices, other))
        for other in safe_ones(len(balances), budget)
        if all(before <= after for before, after in zip(balances, other))
    )


class RaisedTest(unittest.TestCase):
    def test_example(self):
        self.assertEqual(
            (raised((2, 2, 2), (5, 1, 3), 2), raise_cost((2, 2, 2), (5, 1, 3), (2, 4, 3))), ((2, 4, 3), 5)
        )

    def test_written_out(self):
        for balances, prices, budget, right in (
            ((0,), (0,), 5, (5,)), ((9,), (3,), 5, (9,)), ((0, 0, 0), (0, 0, 0), 2, (2, 3, 4)),
            ((0, 0, 0), (1, 2, 3), 2, (4, 3, 2)), ((0, 0, 0), (1, 2, 1), 2, (3, 2, 4)),
            ((0, 0, 0), (0, 10 ** 12, 10 ** 12), 2, (4, 2, 3)), ((9, 0, 0), (7, 7, 7), 2, (9, 2, 3)),
            ((0, 9, 0), (7, 7, 7), 2, (2, 9, 3)), ((4, 4, 1), (1, 3, 2), 2, (4, 4, 2)),
            ((2, 2, 2), (3, 1, 5), 2, (3, 4, 2)), ((0,) * 40, (1,) * 40, 10 ** 6, steps(40, 10 ** 6)),
            ((0,) * 40, tuple(range(40)), 7, steps(40, 7)[::-1]),
            ((10 ** 12,) * 40, (10 ** 12,) * 40, 10 ** 6, (10 ** 12,) * 40),
        ):
            with self.subTest(balances=balances, prices=prices, budget=budget):
                self.assertEqual(raised(balances, prices, budget), right)

    def test_by_definition(self):
        for balances, prices, budget in small_cases():
            with self.subTest(balances=balances, prices=prices, budget=budget):
                self.check(balances, prices, budget)

    def check(self, balances, prices, budget):
        found = raised(balances, prices, budget)
        self.assertTrue(is_plain(found))
        self.assertEqual(len(found), len(balances))
        self.assertTrue(all(after >= before for before, after in zip(balances, found)))
        self.assertIs(is_safe(found, budget), True)
        order = dearest_first(prices)
        for at, sender in enumerate(order):
            taken = order[:at + 1]
            self.assertFalse(has_weak_set(found, taken, budget))
            if found[sender] > balances[sender]:
                less = with_part(found, sender, found[sender] - 1)
                self.assertTrue(has_weak_set(less, taken, budget))

    def test_by_definition_of_more(self):
        for balances, prices, budget in great_cases():
            if len(balances) <= 7:
                with self.subTest(balances=balances, prices=prices, budget=budget):
                    self.check(balances, prices, budget)

    def test_many(self):
        for balances, prices, budget in great_cases():
            with self.subTest(balances=balances, prices=prices, budget=budget):
                found = raised(balances, prices, budget)
                self.assertTrue(all(after >= before for before, after in zip(balances, found)))
                self.assertIs(is_safe(found, budget), True)

    def test_safe_balances_stay(self):
        for balances, prices, budget in small_cases():
            if is_safe(balances, budget):
                with self.subTest(balances=balances, prices=prices, budget=budget):
                    self.assertEqual(raised(balances, prices, budget), balances)

    def test_none_costs_less(self):
        for balances, prices, budget in small_cases():
            with self.subTest(balances=balances, prices=prices, budget=budget):
                found = raised(balances, prices, budget)
                cost = sum(price * (after - before) for before, price, after in zip(balances, prices, found))
                self.assertEqual(cost, least_cost(balances, prices, budget))


class RaiseCostTest(unittest.TestCase):
    def test_sum(self):
        for balances in tuples(2, 3):
            for prices in tuples(2, 3):
                for other in tuples(2, 3):
                    with self.subTest(balances=balances, prices=prices, other=other):
                        right = prices[0] * (other[0] - balances[0]) + prices[1] * (other[1] - balances[1])
                        self.assertEqual(raise_cost(balances, prices, other), right)

    def test_written_out(self):
        self.assertEqual(raise_cost((5,), (7,), (5,)), 0)
        self.assertEqual(raise_cost((5,), (0,), (9,)), 0)
        self.assertEqual(raise_cost((0,) * 40, (10 ** 12,) * 40, (10 ** 12,) * 40), 40 * 10 ** 24)
        self.assertTrue(is_plain(raise_cost((2, 2, 2), (5, 1, 3), (2, 4, 3))))


class LowerBoundTest(unittest.TestCase):
    def check(self, balances, prices, budget):
        cost = raise_cost(balances, prices, raised(balances, prices, budget))
        rows = lower_bound(balances, prices, budget)
        self.assertTrue(is_plain(rows))
        self.assertIs(shows_lower_bound(balances, prices, budget, cost, rows), True)
        self.assertIs(shows_lower_bound(balances, prices, budget, cost + 1, rows), False)
        self.assertIs(shows_lower_bound(balances, prices, budget, cost - 1, rows), False)
        self.assertEqual(len({senders for _, senders in rows}), len(rows))
        self.assertTrue(all(multiplier >= 1 for multiplier, _ in rows))
        for at, price in enumerate(prices):
            self.assertLessEqual(sum(multiplier for multiplier, senders in rows if at in senders), price)
        self.assertEqual(-sum(multiplier * slack(balances, budget, senders) for multiplier, senders in rows), cost)

    def test_small(self):
        for balances, prices, budget in small_cases():
            with self.subTest(balances=balances, prices=prices, budget=budget):
                self.check(balances, prices, budget)

    def test_many(self):
        for balances, prices, budget in great_cases():
            with self.subTest(balances=balances, prices=prices, budget=budget):
                self.check(balances, prices, budget)

    def test_safe_balances_and_no_prices(self):
        for balances, prices, budget in (
            ((2, 3, 4), (5, 1, 3), 2), ((9,), (1,), 9), ((10 ** 12,) * 40, (10 ** 12,) * 40, 10 ** 6),
            ((0, 0, 0), (0, 0, 0), 2), ((0,) * 40, (0,) * 40, 10 ** 6),
        ):
            with self.subTest(balances=balances, prices=prices):
                self.check(balances, prices, budget)
                rows = lower_bound(balances, prices, budget)
                self.assertIs(shows_lower_bound(balances, prices, budget, 0, rows), True)

    def test_one_set_for_several_prices(self):
        # All senders behind the first one have enough, so (0,) is the weakest set at each price.
        self.check((0, 9, 9, 9), (9, 7, 4, 1), 2)
        self.check((0,) + (10 ** 12,) * 39, tuple(range(40, 0, -1)), 10 ** 6)


class ShowsLowerBoundTest(unittest.TestCase):
    def shows(self, amount, thing):
        return shows_lower_bound((2, 2, 2), (5, 1, 3), 2, amount, thing)

    def test_example(self):
        rows = ((2, (0, 2)), (1, (0, 1, 2)))
        self.assertEqual(
            (
                shows_lower_bound((2, 2, 2), (5, 1, 3), 2, 5, rows),
                shows_lower_bound((2, 2, 2), (5, 1, 3), 2, 3, rows[1:]),
                shows_lower_bound((2, 2, 2), (1, 1, 3), 2, 5, rows),
            ),
            (True, True, False),
        )

    def test_another_amount(self):
        for amount in (-5, -1, 0, 1, 4, 6, 10 ** 30, -10 ** 30):
            with self.subTest(amount):
                self.assertIs(self.shows(amount, ROWS), False)

    def test_amount_of_anything(self):
        for amount in ODD_THINGS + ("5", b"5", (5,), [5], {5: 5}, nested(30), Odd()):
            with self.subTest(repr(amount)):
                self.assertIs(self.shows(amount, ROWS), False)
                self.assertIs(self.shows(amount, ()), False)
                self.assertIs(self.shows(amount, amount), False)

    def test_booleans_as_amount(self):
        rows = ((1, (0, 1)),)
        self.assertIs(self.shows(1, rows), True)
        self.assertIs(self.shows(True, rows), False)
        self.assertIs(self.shows(0, ()), True)
        self.assertIs(self.shows(False, ()), False)

    def test_no_rows(self):
        self.assertIs(self.shows(0, ()), True)
        self.assertIs(self.shows(1, ()), False)
        self.assertIs(self.shows(-1, ()), False)

    def test_thing_of_anything(self):
        for thing in ODD_THINGS + (
            [], [(1, (0,))], list(ROWS), (list(ROWS[0]), ROWS[1]), ((2, [0, 2]), ROWS[1]), (ROWS,), ROWS[0],
            (ROWS[0], None), (ROWS[0], ()), ((),), ((1,),), ((1, (0,), 1),), ((1, (0, 1), ()),), ((), *ROWS),
            (((0, 2), 2), ROWS[1]), "rows", ("2", (0, 2)), dict(ROWS), {ROWS: 1}, {ROWS[0], ROWS[1]}, ((1, 0),),
            ((1, None),), ((1, "0"),), ((1, {0: 1}),), ((1, ((0,),)),), ((None, (0,)),), (("1", (0,)),),
            (((1,), (0,)),), (([1], (0,)),), ((1, (Odd(),)),), ((Odd(), (0,)),), (Odd(), Odd()), ((1, Odd()),),
            nested(30), ((1, nested(28)),), iter(ROWS), 0, 5,
        ):
            if thing != () or isinstance(thing, Odd):
                for amount in (0, 5, 1):
                    with self.subTest(thing=repr(thing), amount=amount):
                        self.assertIs(self.shows(amount, thing), False)

    def test_multipliers(self):
        # The set (0,) has the slack 0, so a row with it adds nothing to the amount; ROWS leave 2 of its price.
        for multiplier, right in (
            (1, True), (2, True), (3, False), (0, False), (-1, False), (True, False), (False, False), (None, False),
            ("1", False), ((1,), False), (10 ** 30, False), (-10 ** 30, False),
        ):
            with self.subTest(repr(multiplier)):
                self.assertIs(self.shows(5, ROWS + ((multiplier, (0,)),)), right)
                self.assertIs(self.shows(5, ((multiplier, (0,)),) + ROWS), right)

    def test_senders(self):
        # All prices are great and all balances just fit one sender: single senders add 0 to the amount.
        for senders, right in (
            ((0,), 0), ((1,), 0), ((2,), 0), ((0, 1), 1), ((0, 2), 1), ((1, 2), 1), ((0, 1, 2), 3), ((), None),
            ((1, 0), None), ((2, 0), None), ((0, 0), None), ((0, 1, 1), None), ((2, 1, 0), None), ((0, 2, 1), None),
            ((3,), None), ((0, 3), None), ((-1,), None), ((-1, 0), None), ((-3, -2), None), ((True,), None),
            ((False,), None), ((0, True), None), ((False, 1), None), ([0], None), ([0, 1], None), (0, None),
            (None, None), ("0", None), ({0: 1}, None), (((0,),), None), ((0, (1,)), None), (range(2), None),
        ):
            for amount in (-2, 0, 1, 2, 3, 5):
                with self.subTest(senders=repr(senders), amount=amount):
                    found = shows_lower_bound((2, 2, 2), (10 ** 12,) * 3, 2, amount, ((1, senders),))
                    self.assertIs(found, right is not None and amount == right)

    def test_the_same_senders_twice(self):
        self.assertIs(shows_lower_bound((2, 2), (9, 9), 2, 2, ((2, (0, 1)),)), True)
        self.assertIs(shows_lower_bound((2, 2), (9, 9), 2, 2, ((1, (0, 1)), (1, (0, 1)))), False)
        self.assertIs(shows_lower_bound((2, 2), (9, 9), 2, 3, ((1, (0, 1)), (2, (0, 1)))), False)
        self.assertIs(shows_lower_bound((2, 2), (9, 9), 2, 3, ((1, (0, 1)), (1, (0,)), (2, (0, 1)))), False)
        self.assertIs(shows_lower_bound((2, 2), (9, 9), 2, 1, ((1, (0, 1)), (1, (0,)), (1, (1,)))), True)

    def test_the_order_of_the_rows(self):
        self.assertIs(self.shows(5, ROWS[::-1]), True)

    def test_sums_and_prices(self):
        for prices, right in (
            ((3, 1, 3), True), ((2, 1, 3), False), ((3, 0, 3), False), ((3, 1, 2), False), ((4, 2, 4), True),
            ((10 ** 12,) * 3, True), ((0, 0, 0), False),
        ):
            with self.subTest(prices):
                self.assertIs(shows_lower_bound((2, 2, 2), prices, 2, 5, ROWS), right)

    def test_rows_with_a_slack_above_0(self):
        # The rows need not be weak sets; then they lower the amount, also below 0.
        self.assertIs(shows_lower_bound((0, 9), (1, 1), 2, 2, ((1, (0,)),)), True)
        self.assertIs(shows_lower_bound((0, 9), (1, 1), 2, -5, ((1, (0,)), (1, (1,)))), True)
        self.assertIs(shows_lower_bound((0, 9), (1, 1), 2, -4, ((1, (0, 1)),)), True)
        self.assertIs(shows_lower_bound((0, 9), (1, 1), 2, 4, ((1, (0, 1)),)), False)

    def test_never_above_the_least_cost(self):
        choices = subsets(range(3))
        numbers = lcg(5)
        accepted = 0
        for balances, prices, budget in small_cases():
            if len(balances) == 3 and next(numbers) % 4 == 0:
                some = sorted({next(numbers) % 7 for _ in range(3)})
                rows = tuple((next(numbers) % 2 + 1, choices[at]) for at in some)
                amount = -sum(multiplier * slack(balances, budget, senders) for multiplier, senders in rows)
                fits = all(sum(m for m, senders in rows if at in senders) <= prices[at] for at in range(3))
                with self.subTest(balances=balances, prices=prices, budget=budget, rows=rows):
                    self.assertIs(shows_lower_bound(balances, prices, budget, amount, rows), fits)
                    if fits:
                        accepted += 1
                        self.assertLessEqual(amount, least_cost(balances, prices, budget))
        self.assertGreater(accepted, 20)

    def test_the_things_stay(self):
        amount, thing = [5], [[2, [0, 2]], {1: (0, 1, 2)}]
        shows_lower_bound((2, 2, 2), (5, 1, 3), 2, amount, thing)
        shows_lower_bound((2, 2, 2), (5, 1, 3), 2, 5, thing)
        self.assertEqual((amount, thing), ([5], [[2, [0, 2]], {1: (0, 1, 2)}]))


class InterfaceTest(unittest.TestCase):
    def test_defined_in_the_file(self):
        for name in ("raised", "raise_cost", "lower_bound", "shows_lower_bound"):
            with self.subTest(name):
                self.assertEqual(getattr(module, name).__module__, "creditfloor.prices")

    def test_parameters(self):
        self.assertEqual(parameters(raised), ("balances", "prices", "budget"))
        self.assertEqual(parameters(raise_cost), ("balances", "prices", "other"))
        self.assertEqual(parameters(lower_bound), ("balances", "prices", "budget"))
        self.assertEqual(parameters(shows_lower_bound), ("balances", "prices", "budget", "amount", "thing"))

    def test_by_name(self):
        self.assertEqual(raised(budget=2, prices=(5, 1, 3), balances=(2, 2, 2)), (2, 4, 3))
        self.assertEqual(raise_cost(other=(2, 4, 3), prices=(5, 1, 3), balances=(2, 2, 2)), 5)
        self.assertEqual(
            lower_bound(budget=2, prices=(5, 1, 3), balances=(2, 2, 2)), lower_bound((2, 2, 2), (5, 1, 3), 2)
        )
        self.assertIs(
            shows_lower_bound(thing=ROWS, amount=5, budget=2, prices=(5, 1, 3), balances=(2, 2, 2)), True
        )

    def test_arguments_stay(self):
        balances, prices, rows = (2, 2, 2), (5, 1, 3), ((2, (0, 2)), (1, (0, 1, 2)))
        raised(balances, prices, 2)
        raise_cost(balances, prices, (2, 4, 3))
        lower_bound(balances, prices, 2)
        shows_lower_bound(balances, prices, 2, 5, rows)
        self.assertEqual((balances, prices, rows), ((2, 2, 2), (5, 1, 3), ROWS))


if __name__ == "__main__":
    unittest.main()
