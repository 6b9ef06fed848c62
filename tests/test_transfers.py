"""Points [2], [3], [4] (f) and [21]."""

import itertools
import unittest

from creditfloor import transfers as module
from creditfloor.errors import CreditError, NotSafe, OtherTotal, TooMany
from creditfloor.safety import is_safe
from creditfloor.thresholds import steps, threshold
from creditfloor.transfers import distance, shows_transfers, transfers
from tests.helpers import ODD_THINGS, Odd, first_weak_set, is_plain, lcg, nested, parameters, splits, tuples

ONE = (4, 2, 3)
OTHER = (2, 3, 4)
PAIRS = ((0, 1), (0, 2))


def safe_pairs(count, budget, above):
    """All pairs of safe balances with the same total, up to so much above the least one."""
    for total in range(threshold(count, budget), threshold(count, budget) + above + 1):
        some = [balances for balances in splits(count, total) if is_safe(balances, budget)]
        yield from itertools.product(some, some)


def small_cases():
    sizes = ((1, 1, 3), (1, 5, 2), (2, 1, 4), (2, 3, 3), (3, 2, 2), (3, 3, 0), (4, 1, 3), (4, 2, 0))
    for count, budget, above in sizes:
        for one, other in safe_pairs(count, budget, above):
            yield one, other, budget


def mixed(parts, numbers):
    order = sorted(range(len(parts)), key=lambda at: next(numbers))
    return tuple(parts[at] for at in order)


def great_cases():
    """Safe balances of many senders with the same total, with their budgets."""
    numbers = lcg(23)
    for count, budget in ((5, 3), (8, 10), (20, 1), (20, 9), (39, 7), (40, 2), (40, 3)):
        right = steps(count, budget)
        for above in (1, 2, 5):
            extra = [next(numbers) % above for _ in right]
            parts = [part + more for part, more in zip(right, extra)]
            yield mixed(parts, numbers), mixed(parts, numbers), budget
            yield mixed(parts, numbers), mixed(right[:-1] + (right[-1] + sum(extra),), numbers), budget


def moved(balances, pair):
    found = list(balances)
    found[pair[0]] -= 1
    found[pair[1]] += 1
    return tuple(found)


class DistanceTest(unittest.TestCase):
    def test_example(self):
        self.assertEqual(
            (
                distance((4, 2, 3), (2, 3, 4)),
                shows_transfers((4, 2, 3), (2, 3, 4), 2, ((0, 1), (0, 2))),
                shows_transfers((4, 2, 3), (2, 4, 3), 2, ((0, 2), (0, 1), (2, 1))),
                shows_transfers((4, 2, 3), (4, 3, 2), 2, ((2, 0), (0, 1))),
            ),
            (2, True, True, False),
        )

    def test_written_out(self):
        self.assertEqual(distance((5,), (5,)), 0)
        self.assertEqual(distance((0, 9), (9, 0)), 9)
        self.assertEqual(distance((1, 2, 3), (3, 2, 1)), 2)
        self.assertEqual(distance((10 ** 12, 0) * 20, (0, 10 ** 12) * 20), 20 * 10 ** 12)
        self.assertTrue(is_plain(distance((4, 2, 3), (2, 3, 4))))

    def test_sum_of_what_is_given(self):
        for one, other in itertools.product(splits(3, 5), repeat=2):
            with self.subTest(one=one, other=other):
                self.assertEqual(distance(one, other), sum(max(0, a - b) for a, b in zip(one, other)))
                self.assertEqual(distance(other, one), distance(one, other))


class TransfersTest(unittest.TestCase):
    def check(self, one, other, budget):
        found = transfers(one, other, budget)
        self.assertTrue(is_plain(found))
        self.assertEqual(len(found), sum(abs(a - b) for a, b in zip(one, other)) // 2)
        held = one
        for pair in found:
            self.assertEqual(len(pair), 2)
            self.assertNotEqual(pair[0], pair[1])
            self.assertTrue(all(0 <= at < len(one) for at in pair))
            held = moved(held, pair)
            self.assertIsNone(first_weak_set(held, budget))
        self.assertEqual(held, other)
        self.assertIs(shows_transfers(one, other, budget, found), True)

    def test_small(self):
        for one, other, budget in small_cases():
            with self.subTest(one=one, other=other, budget=budget):
                self.check(one, other, budget)

    def test_many(self):
        for one, other, budget in great_cases():
            with self.subTest(one=one, other=other, budget=budget):
                self.check(one, other, budget)
                self.check(other, one, budget)

    def test_reversed_steps(self):
        for count in range(1, 41):
            for budget in (1, 2, 5):
                right = steps(count, budget)
                with self.subTest(count=count, budget=budget):
                    self.check(right, right[::-1], budget)

    def test_equal_ones(self):
        for balances, budget in (((5,), 5), ((9,), 1), ((2, 3, 4), 2), ((10 ** 12,) * 40, 10 ** 6), (steps(40, 7), 7)):
            with self.subTest(balances):
                self.assertEqual(transfers(balances, balances, budget), ())

    def test_the_greatest_distance(self):
        for one, other in (
            ((2000, 1000), (1000, 2000)), ((10 ** 12 - 1000, 10 ** 12), (10 ** 12, 10 ** 12 - 1000)),
            ((50,) * 20 + (100,) * 20, (100,) * 20 + (50,) * 20), ((1000, 1000, 1000), (500, 500, 2000)),
        ):
            with self.subTest(one=one, other=other):
                self.assertEqual(distance(one, other), 1000)
                self.check(one, other, 1)

    def test_too_many(self):
        for one, other in (
            ((2001, 1000), (1000, 2001)), ((10 ** 12, 1), (1, 10 ** 12)), ((10 ** 12, 1) * 20, (1, 10 ** 12) * 20),
            ((50,) * 20 + (101,) + (100,) * 19, (101,) + (100,) * 19 + (50,) * 20),
        ):
            with self.subTest(one=one, other=other):
                with self.assertRaises(TooMany) as caught:
                    transfers(one, other, 1)
                self.assertEqual(caught.exception.value, 1000)
                self.assertTrue(is_plain(caught.exception.value))

    def raised(self, one, other, budget):
        with self.assertRaises(CreditError) as caught:
            transfers(one, other, budget)
        return (type(caught.exception), caught.exception.value)

    def test_not_safe(self):
        for one, other in itertools.product(tuples(2, 4), repeat=2):
            weak = first_weak_set(one, 2) or first_weak_set(other, 2)
            if weak is not None:
                with self.subTest(one=one, other=other):
                    self.assertEqual(self.raised(one, other, 2), (NotSafe, weak))

    def test_other_total(self):
        for one, other in itertools.product(tuples(2, 5), repeat=2):
            if is_safe(one, 2) and is_safe(other, 2) and sum(one) != sum(other):
                with self.subTest(one=one, other=other):
                    self.assertEqual(self.raised(one, other, 2), (OtherTotal, sum(other)))

    def test_the_order_of_the_exceptions(self):
        self.assertEqual(self.raised((2, 9, 2), (1, 5000, 9), 2), (NotSafe, (0, 2)))
        self.assertEqual(self.raised((2, 9, 3), (1, 5000, 9), 2), (NotSafe, (0,)))
        self.assertEqual(self.raised((2, 9, 3), (2, 5000, 9), 2), (OtherTotal, 5011))
        self.assertEqual(self.raised((2, 5009, 3), (2, 9, 5003), 2), (TooMany, 1000))
        self.assertEqual(self.raised((2, 5009, 2), (2, 9, 5002), 2), (NotSafe, (0, 2)))
        self.assertEqual(self.raised((2, 5009, 3), (2, 2, 5010), 2), (NotSafe, (0, 1)))


class ShowsTransfersTest(unittest.TestCase):
    def shows(self, thing):
        return shows_transfers(ONE, OTHER, 2, thing)

    def test_by_definition(self):
        pairs = [pair for pair in itertools.product(range(3), repeat=2) if pair[0] != pair[1]]
        for one in ((4, 2, 3), (3, 3, 3), (2, 3, 5), (2, 2, 5), (9, 1, 9)):
            for length in range(4):
                for thing in itertools.product(pairs, repeat=length):
                    held, safe = one, first_weak_set(one, 2) is None
                    for pair in thing:
                        held = moved(held, pair)
                        safe = safe and first_weak_set(held, 2) is None
                    with self.subTest(one=one, thing=thing):
                        self.assertIs(shows_transfers(one, held, 2, thing), safe)
                        self.assertIs(shows_transfers(one, moved(held, (0, 1)), 2, thing), False)

    def test_no_transfers(self):
        self.assertIs(shows_transfers((2, 3), (2, 3), 2, ()), True)
        self.assertIs(shows_transfers((5,), (5,), 5, ()), True)
        self.assertIs(shows_transfers((2, 3), (3, 2), 2, ()), False)
        self.assertIs(shows_transfers((2, 2), (2, 2), 2, ()), False)
        self.assertIs(shows_transfers((4,), (4,), 5, ()), False)

    def test_balances_at_the_start_that_are_not_safe(self):
        self.assertIs(shows_transfers((2, 2, 5), (2, 3, 4), 2, ((2, 1),)), False)
        self.assertIs(shows_transfers((1, 4, 4), (2, 3, 4), 2, ((1, 0),)), False)
        self.assertIs(shows_transfers((9, 1), (8, 2), 2, ((0, 1),)), False)

    def test_not_safe_on_the_way(self):
        self.assertIs(shows_transfers((2, 3), (2, 3), 2, ((0, 1), (1, 0))), False)
        self.assertIs(shows_transfers((2, 3), (2, 3), 2, ((1, 0), (0, 1))), True)
        self.assertIs(shows_transfers((1, 1), (1, 1), 1, ((0, 1), (1, 0))), False)
        self.assertIs(shows_transfers((1, 9), (1, 9), 1, ((0, 1), (0, 1), (1, 0), (1, 0))), False)
        self.assertIs(shows_transfers((1, 9), (0, 10), 1, ((0, 1),)), False)

    def test_another_end(self):
        for other in ((4, 2, 3), (3, 3, 3), (2, 4, 3), (2, 3, 5), (2, 3, 3), (3, 3, 4), (4, 3, 2)):
            with self.subTest(other):
                self.assertIs(shows_transfers(ONE, other, 2, PAIRS), False)

    def test_more_than_the_distance(self):
        around = ((0, 2), (2, 0)) * 600
        self.assertIs(shows_transfers((9, 9, 9), (9, 9, 9), 2, around), True)
        self.assertIs(shows_transfers((9, 9, 9), (8, 10, 9), 2, around + ((0, 1),)), True)
        self.assertIs(shows_transfers((10 ** 12,) * 40, (10 ** 12,) * 40, 10 ** 6, ((0, 39), (39, 0)) * 10), True)
        self.assertIs(shows_transfers(ONE, OTHER, 2, ((0, 2), (0, 1))), True)
        self.assertIs(shows_transfers(ONE, OTHER, 2, ((0, 1), (1, 0), (0, 1), (0, 2))), True)

    def test_thing_of_anything(self):
        for thing in ODD_THINGS + (
            list(PAIRS), [], [[0, 1], [0, 2]], ([0, 1], (0, 2)), ((0, 1), [0, 2]), (PAIRS,), PAIRS[0], set(PAIRS),
            dict([PAIRS[0]]), iter(PAIRS), "pairs", ("01", "02"), (b"01", b"02"), (*PAIRS, None), (*PAIRS, ()),
            (*PAIRS, "01"), ((), *PAIRS), (None, *PAIRS), (*PAIRS, 0), (*PAIRS, Odd()), ((0, Odd()), (0, 2)),
            ((0, 1, 0), (0, 2, 0)), ((0, 1, 2),), ((0,), (1,)), (((0, 1),), ((0, 2),)), ((0, (1,)), (0, 2)),
            ((0, None), (0, 2)), (("0", "1"), ("0", "2")), nested(30), (nested(29),), ((0, nested(28)),), 0, 2,
        ):
            with self.subTest(repr(thing)):
                self.assertIs(self.shows(thing), False)

    def test_indexes(self):
        for pair, right in (
            ((0, 1), True), ((0, 0), False), ((1, 1), False), ((0, -2), False), ((-3, 1), False), ((-3, -2), False),
            ((0, True), False), ((False, 1), False), ((False, True), False), ((0, 3), False), ((3, 1), False),
            ((0, 10 ** 30), False), ((0, "1"), False), ((0, b"1"), False), ((0, (1,)), False), ((1, 0), False),
            ((0, -1), False), ((-1, 1), False),
        ):
            with self.subTest(repr(pair)):
                self.assertIs(self.shows((pair, (0, 2))), right)
                self.assertIs(self.shows(((0, 2), pair)), right)

    def test_indexes_from_the_end(self):
        for thing in (((0, 1), (0, -1)), ((0, -2), (0, 2)), ((-3, 1), (0, 2)), ((0, 1), (-3, -1))):
            with self.subTest(thing):
                self.assertIs(self.shows(thing), False)
        self.assertIs(shows_transfers((3, 2), (2, 3), 2, ((0, -1),)), False)

    def test_equal_indexes_behind_the_end(self):
        for pair in ((0, 0), (2, 2), (True, True), (3, 3), (-1, -1)):
            with self.subTest(pair):
                self.assertIs(self.shows(PAIRS + (pair,)), False)

    def test_the_thing_stays(self):
        for thing in ([[0, 1], [0, 2]], ([0, 1], {0: 2})):
            before = repr(thing)
            self.shows(thing)
            self.assertEqual(repr(thing), before)


class InterfaceTest(unittest.TestCase):
    def test_defined_in_the_file(self):
        for name in ("distance", "transfers", "shows_transfers"):
            with self.subTest(name):
                self.assertEqual(getattr(module, name).__module__, "creditfloor.transfers")

    def test_parameters(self):
        self.assertEqual(parameters(distance), ("one", "other"))
        self.assertEqual(parameters(transfers), ("one", "other", "budget"))
        self.assertEqual(parameters(shows_transfers), ("one", "other", "budget", "thing"))

    def test_by_name(self):
        self.assertEqual(distance(other=OTHER, one=ONE), 2)
        self.assertEqual(transfers(budget=2, other=OTHER, one=ONE), transfers(ONE, OTHER, 2))
        self.assertIs(shows_transfers(thing=PAIRS, budget=2, other=OTHER, one=ONE), True)

    def test_equal_calls(self):
        self.assertEqual(transfers((9, 9, 9), (3, 12, 12), 2), transfers((9, 9, 9), (3, 12, 12), 2))

    def test_arguments_stay(self):
        one, other, pairs = (4, 2, 3), (2, 3, 4), ((0, 1), (0, 2))
        distance(one, other)
        transfers(one, other, 2)
        shows_transfers(one, other, 2, pairs)
        self.assertEqual((one, other, pairs), (ONE, OTHER, PAIRS))


if __name__ == "__main__":
    unittest.main()
