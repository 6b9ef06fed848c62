"""Points [2], [3], [4] (g), [23], [24] and [25]."""

import functools
import itertools
import unittest

from creditfloor import games as module
from creditfloor.errors import AlreadySafe, CreditError
from creditfloor.games import forcing_demand, game_table, holding_grant, shows_game_table, ticks_to_stall
from creditfloor.safety import is_safe
from creditfloor.ticks import is_demand, stalled
from tests.helpers import (
    ODD_THINGS, Odd, demands_of, granted, grants_after, is_plain, kept_with_whole_demands, minus, nested, parameters,
    splits, tuples,
)

SIZES = [(count, budget) for count in range(1, 5) for budget in range(1, 5)]
# No number in the games of this section is above it, as the greatest one is below (test_none_is_forever).
MOST_TICKS = 6


@functools.lru_cache(maxsize=None)
def stalls_within(balances, ticks, budget):
    """Whether the opponent can force a stall in this many ticks, all demands of [3] looked at."""
    if ticks == 0:
        return False
    if any(stalled(balances, demand) for demand in demands_of(len(balances), budget)):
        return True
    return ticks > 1 and any(
        all(stalls_within(tuple(sorted(after)), ticks - 1, budget) for after in grants_after(balances, demand, budget))
        for demand in demands_of(len(balances), budget)
    )


@functools.lru_cache(maxsize=None)
def right_number(balances, budget):
    """The least number of ticks in which a stall can be forced, None if it is above MOST_TICKS."""
    return next((ticks for ticks in range(1, MOST_TICKS + 1) if stalls_within(balances, ticks, budget)), None)


@functools.lru_cache(maxsize=None)
def states(count, total):
    """All balances with this total that do not fall, ascending."""
    return tuple(balances for balances in splits(count, total) if list(balances) == sorted(balances))


def small_cases():
    for count, budget in SIZES:
        for total in range(25):
            for balances in states(count, total):
                yield balances, budget


def is_more(one, other):
    """Whether one number is greater than another, None being greater than every integer."""
    return other is not None and (one is None or one > other)


class TicksToStallTest(unittest.TestCase):
    def test_example(self):
        self.assertEqual(
            (ticks_to_stall((1, 9), 2), ticks_to_stall((2, 2), 2), ticks_to_stall((2, 3), 2)), (1, 2, None)
        )

    def test_the_game_played_out(self):
        for balances, budget in small_cases():
            with self.subTest(balances=balances, budget=budget):
                found = ticks_to_stall(balances, budget)
                self.assertEqual(found, right_number(balances, budget))
                self.assertTrue(is_plain(found))

    def test_none_is_forever(self):
        greatest = 0
        for balances, budget in small_cases():
            kept = kept_with_whole_demands(len(balances), budget, sum(balances))
            found = right_number(balances, budget)
            greatest = max(greatest, found or 0)
            with self.subTest(balances=balances, budget=budget):
                self.assertIs(found is None, balances in kept)
        self.assertEqual(greatest, MOST_TICKS - 1)

    def test_none_exactly_for_safe_balances(self):
        for balances, budget in small_cases():
            with self.subTest(balances=balances, budget=budget):
                self.assertIs(ticks_to_stall(balances, budget) is None, is_safe(balances, budget))

    def test_each_order(self):
        for balances, budget in (
            ((2, 3, 4), 2), ((2, 2, 9), 2), ((4, 9, 6), 4), ((3, 4, 6, 8), 3), ((2, 3, 3, 4), 2), ((5, 5, 6, 7), 4),
            ((0, 1, 2, 3), 1), ((0, 0, 0, 24), 4), ((3, 5), 3),
        ):
            for order in itertools.permutations(balances):
                with self.subTest(balances=order, budget=budget):
                    self.assertEqual(ticks_to_stall(order, budget), right_number(tuple(sorted(balances)), budget))

    def test_all_of_some_totals(self):
        for count, budget, total in ((2, 2, 5), (2, 4, 12), (3, 2, 8), (3, 3, 13), (4, 2, 12), (4, 3, 13)):
            for balances in splits(count, total):
                with self.subTest(balances=balances, budget=budget):
                    right = right_number(tuple(sorted(balances)), budget)
                    self.assertEqual(ticks_to_stall(balances, budget), right)

    def test_somewhat_beyond_the_limits(self):
        self.assertEqual(ticks_to_stall((5, 5, 5, 5, 6), 5), right_number((5, 5, 5, 5, 6), 5))
        self.assertIsNone(ticks_to_stall((6, 6, 6, 6, 6), 1))


class ForcingDemandTest(unittest.TestCase):
    def test_example(self):
        self.assertEqual((forcing_demand((2, 2), 2), holding_grant((1, 2), 2)), ((1, 1), 0))

    def check(self, balances, budget):
        demand = forcing_demand(balances, budget)
        self.assertTrue(is_plain(demand))
        self.assertIs(is_demand(demand, len(balances), budget), True)
        if stalled(balances, demand) == ():
            number = right_number(tuple(sorted(balances)), budget)
            self.assertEqual(sum(demand), budget)
            for after in grants_after(balances, demand, budget):
                self.assertTrue(is_more(number, right_number(tuple(sorted(after)), budget)))

    def test_each_demand_forces(self):
        for balances, budget in small_cases():
            if not is_safe(balances, budget):
                for order in {balances, balances[::-1], balances[1:] + balances[:1]}:
                    with self.subTest(balances=order, budget=budget):
                        self.check(order, budget)

    def test_equal_calls(self):
        for balances, budget in (((2, 2), 2), ((3, 4, 5), 3), ((2, 3, 3, 4), 2), ((0, 9), 4)):
            with self.subTest(balances=balances, budget=budget):
                self.assertEqual(forcing_demand(balances, budget), forcing_demand(balances, budget))

    def test_already_safe(self):
        for balances, budget in small_cases():
            if is_safe(balances, budget):
                with self.subTest(balances=balances, budget=budget):
                    with self.assertRaises(AlreadySafe) as caught:
                        forcing_demand(balances, budget)
                    self.assertIsInstance(caught.exception, CreditError)


class HoldingGrantTest(unittest.TestCase):
    def test_first_of_the_greatest(self):
        for count, budget in SIZES:
            for total in range(25 - budget):
                for balances in states(count, total):
                    for order in {balances, balances[::-1]}:
                        with self.subTest(balances=order, budget=budget):
                            self.check(order, budget)

    def check(self, balances, budget):
        found = holding_grant(balances, budget)
        self.assertTrue(is_plain(found))
        self.assertIn(found, range(len(balances)))
        numbers = [
            right_number(tuple(sorted(granted(balances, sender, budget))), budget) for sender in range(len(balances))
        ]
        self.assertFalse(any(is_more(number, numbers[found]) for number in numbers))
        self.assertTrue(all(is_more(numbers[found], number) for number in numbers[:found]))

    def test_written_out(self):
        self.assertEqual(holding_grant((0,), 1), 0)
        self.assertEqual(holding_grant((0, 0), 1), 0)
        self.assertEqual(holding_grant((9, 0), 1), 1)
        self.assertEqual(holding_grant((3, 1), 2), 1)
        self.assertEqual(holding_grant((4, 4, 4), 2), 0)


class PlayTest(unittest.TestCase):
    def ticks_played(self, balances, budget):
        held, ticks = balances, 0
        while True:
            ticks += 1
            demand = forcing_demand(held, budget)
            if stalled(held, demand) != ():
                return ticks
            left = minus(held, demand)
            held = granted(left, holding_grant(left, budget), budget)

    def test_exactly_as_many_ticks(self):
        for balances, budget in small_cases():
            if not is_safe(balances, budget):
                with self.subTest(balances=balances, budget=budget):
                    self.assertEqual(self.ticks_played(balances, budget), ticks_to_stall(balances, budget))


class GameTableTest(unittest.TestCase):
    def test_example(self):
        self.assertEqual(
            (game_table(2, 2, 4), shows_game_table(2, 2, 4, (((0, 4), 1), ((1, 3), 1), ((2, 2), 3)))),
            ((((0, 4), 1), ((1, 3), 1), ((2, 2), 2)), False),
        )

    def test_all_tables(self):
        for count, budget in SIZES:
            for total in range(25):
                with self.subTest(count=count, budget=budget, total=total):
                    found = game_table(count, budget, total)
                    right = tuple((balances, right_number(balances, budget)) for balances in states(count, total))
                    self.assertEqual(found, right)
                    self.assertTrue(is_plain(found))
                    self.assertIs(shows_game_table(count, budget, total, found), True)

    def test_written_out(self):
        self.assertEqual(game_table(1, 1, 0), (((0,), 1),))
        self.assertEqual(game_table(1, 1, 1), (((1,), None),))
        self.assertEqual(game_table(4, 4, 0), (((0, 0, 0, 0), 1),))
        self.assertEqual(game_table(2, 1, 2), (((0, 2), 1), ((1, 1), None)))
        self.assertEqual(game_table(2, 2, 5), (((0, 5), 1), ((1, 4), 1), ((2, 3), None)))


class ShowsGameTableTest(unittest.TestCase):
    def shows(self, thing):
        return shows_game_table(3, 2, 8, thing)

    def test_each_table_of_its_own(self):
        tables = [(count, budget, total) for count in (1, 2, 3) for budget in (1, 2, 3) for total in (0, 3, 6, 9)]
        for one, other in itertools.product(tables, repeat=2):
            with self.subTest(one=one, other=other):
                table = game_table(*other)
                self.assertIs(shows_game_table(*one, table), table == game_table(*one))

    def test_a_row_left_out(self):
        table = game_table(3, 2, 8)
        self.assertIs(self.shows(table), True)
        for at in range(len(table)):
            with self.subTest(at):
                self.assertIs(self.shows(table[:at] + table[at + 1:]), False)
        self.assertIs(self.shows(()), False)

    def test_a_row_twice(self):
        table = game_table(3, 2, 8)
        for at in range(len(table)):
            with self.subTest(at):
                self.assertIs(self.shows(table[:at + 1] + table[at:]), False)
                self.assertIs(self.shows(table[:at] + (table[at - 1],) + table[at + 1:]), False)

    def test_rows_exchanged(self):
        table = game_table(3, 2, 8)
        for at in range(1, len(table)):
            with self.subTest(at):
                self.assertIs(self.shows(table[:at - 1] + (table[at], table[at - 1]) + table[at + 1:]), False)
        self.assertIs(self.shows(table[::-1]), False)

    def test_another_number(self):
        for count, budget, total in ((1, 2, 1), (1, 2, 2), (2, 2, 4), (2, 2, 5), (3, 2, 8), (3, 3, 13), (4, 2, 12)):
            table = game_table(count, budget, total)
            for at, (balances, right) in enumerate(table):
                for number in (None, 0, 1, 2, 3, 4, 5, 6, -1, 10 ** 30, True, False, "1", (1,), [1], Odd()):
                    other = table[:at] + ((balances, number),) + table[at + 1:]
                    with self.subTest(total=total, row=(balances, number)):
                        same = type(number) is type(right) and number == right
                        self.assertIs(shows_game_table(count, budget, total, other), same)

    def test_all_small_numbers(self):
        # Only the table meets the conditions, whatever the numbers in all rows together are.
        for count, budget, total in ((2, 2, 4), (2, 2, 5), (2, 3, 8), (3, 2, 6), (3, 1, 4), (2, 4, 9)):
            table = game_table(count, budget, total)
            held = [balances for balances, _ in table]
            for numbers in itertools.product((None, 1, 2, 3, 4), repeat=len(held)):
                thing = tuple(zip(held, numbers))
                with self.subTest(count=count, budget=budget, total=total, thing=thing):
                    self.assertIs(shows_game_table(count, budget, total, thing), thing == table)

    def test_booleans_as_balances(self):
        self.assertIs(shows_game_table(2, 1, 2, (((0, 2), 1), ((1, 1), None))), True)
        for row in ((True, True), (1, True), (True, 1)):
            self.assertIs(shows_game_table(2, 1, 2, (((0, 2), 1), (row, None))), False)
        self.assertIs(shows_game_table(2, 1, 2, (((False, 2), 1), ((1, 1), None))), False)
        self.assertIs(shows_game_table(2, 1, 2, (((0, 2), True), ((1, 1), None))), False)
        self.assertIs(shows_game_table(1, 1, 0, (((0,), 1),)), True)
        self.assertIs(shows_game_table(1, 1, 0, (((False,), 1),)), False)
        self.assertIs(shows_game_table(1, 1, 1, (((1,), False),)), False)

    def test_other_balances(self):
        table = game_table(3, 2, 8)
        for balances in (
            (8, 0, 0), (0, 0, 9), (0, 0, 7), (0, 8), (0, 0, 0, 8), [0, 0, 8], "008", None, 8, (), ((0, 0, 8),),
            (0, 0, (8,)), (0, 0, "8"), (0, None, 8), (-1, 0, 9), (Odd(), Odd(), Odd()), Odd(), {0: 8},
        ):
            with self.subTest(repr(balances)):
                self.assertIs(self.shows(((balances, 1),) + table[1:]), False)

    def test_thing_of_anything(self):
        table = game_table(3, 2, 8)
        for thing in ODD_THINGS + (
            list(table), [list(row) for row in table], tuple(list(row) for row in table), dict(table), set(table),
            iter(table), (table,), table + ((),), table + (None,), ((),) + table, table[0], table[:-1] + (None,),
            table[:-1] + ((),), table[:-1] + (table[-1] + (1,),), table[:-1] + (table[-1][:1],),
            table[:-1] + (Odd(),), tuple(row[::-1] for row in table), "table", repr(table), 0, 8, nested(30),
            (nested(29),) * len(table), ((nested(28), 1),) * len(table), (None,) * len(table), ("ab",) * len(table),
            tuple(balances for balances, _ in table),
        ):
            with self.subTest(repr(thing)):
                self.assertIs(self.shows(thing), False)

    def test_the_thing_stays(self):
        for thing in ([[[0, 4], 1]], ([(0, 4), 1], {}, [])):
            before = repr(thing)
            shows_game_table(2, 2, 4, thing)
            self.assertEqual(repr(thing), before)


class InterfaceTest(unittest.TestCase):
    def test_defined_in_the_file(self):
        for name in ("ticks_to_stall", "forcing_demand", "holding_grant", "game_table", "shows_game_table"):
            with self.subTest(name):
                self.assertEqual(getattr(module, name).__module__, "creditfloor.games")

    def test_parameters(self):
        self.assertEqual(parameters(ticks_to_stall), ("balances", "budget"))
        self.assertEqual(parameters(forcing_demand), ("balances", "budget"))
        self.assertEqual(parameters(holding_grant), ("balances", "budget"))
        self.assertEqual(parameters(game_table), ("count", "budget", "total"))
        self.assertEqual(parameters(shows_game_table), ("count", "budget", "total", "thing"))

    def test_by_name(self):
        table = game_table(2, 3, 7)
        self.assertEqual(ticks_to_stall(budget=2, balances=(2, 2)), 2)
        self.assertEqual(forcing_demand(budget=2, balances=(2, 2)), (1, 1))
        self.assertEqual(holding_grant(budget=2, balances=(3, 1)), 1)
        self.assertEqual(game_table(total=7, budget=3, count=2), table)
        self.assertIs(shows_game_table(thing=table, total=7, budget=3, count=2), True)

    def test_arguments_stay(self):
        balances, table = (3, 2), game_table(2, 3, 7)
        for function in (ticks_to_stall, forcing_demand, holding_grant):
            function(balances, 4)
        shows_game_table(2, 3, 7, table)
        self.assertEqual((balances, table), ((3, 2), game_table(2, 3, 7)))

    def test_the_whole_demand_is_enough(self):
        # What the document says in brackets in [23], for the games that are small enough for all numbers.
        for balances in tuples(3, 5):
            whole = any(
                all(is_more(right_number(tuple(sorted(balances)), 2), right_number(tuple(sorted(after)), 2))
                    for after in grants_after(balances, demand, 2))
                for demand in splits(3, 2)
            ) if min(balances) >= 2 else True
            with self.subTest(balances):
                self.assertIs(whole, not is_safe(balances, 2))


if __name__ == "__main__":
    unittest.main()
