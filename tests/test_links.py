"""Points [2], [3], [4] (h) and [26] to [30]."""

import itertools
import unittest

from creditfloor import links as module
from creditfloor.errors import (
    BadAmount, BadBudget, BadName, BadSpends, CreditError, FullLink, NothingToUndo, OverBudget, Refused, TakenName,
    UnknownName,
)
from creditfloor.links import Link
from creditfloor.safety import is_safe
from creditfloor.thresholds import steps, threshold
from tests.helpers import (
    NAMES, ODD_THINGS, Odd, first_weak_set, is_plain, lcg, link_of, nested, parameters, splits,
)

NO_NAMES = ODD_THINGS[:4] + ODD_THINGS[5:] + (
    "A", "aB", "a1", "1", "a b", " a", "a ", "a-b", "a_b", "a.", "~", "abcdefghi", "a" * 9, "a" * 1000, "a\n", "\na",
    0, 1, -1, 10 ** 30, ("a",), ["a"], {"a": 1}, b"a", (("a", 1),), len,
)
NO_AMOUNTS = ODD_THINGS + (-1, 10 ** 12 + 1, 10 ** 30, -10 ** 30, "5", b"5", (5,), [5], {5: 5}, "a", "done")
NO_BUDGETS = ODD_THINGS + (0, -1, 10 ** 6 + 1, 10 ** 12, 10 ** 30, -10 ** 30, "5", b"5", (5,), [5], {5: 5}, "a")
SPENDS_OF_ANOTHER_FORM = ODD_THINGS[:-1] + (
    [("a", 1)], (["a", 1],), ("a", 1), (("a",),), (("a", 1, 1),), ((),), (("a", 1), ()), (("a", 1), None), ((1, "a"),),
    (("b", 1), ("a", 1)), (("a", 1), ("a", 0)), (("a", 0), ("b", 0), ("a", 0)), (("a", 0), ("b", 0), ("b", 0)),
    (("a", -1),), (("a", True),), (("a", False),), (("a", "1"),), (("a", None),), (("a", (1,)),), (("a", b"1"),),
    (("A", 1),), (("", 1),), (("a" * 9, 1),), (("a b", 1),), ((None, 1),), ((b"a", 1),), ((("a",), 1),), ((1, 1),),
    {"a": 1}, {("a", 1)}, "a1", ("a1",), ("ab", "cd"), iter((("a", 1),)), ((("a", 1),),), (Odd(),), ((Odd(), 1),),
    (("a", Odd()),), nested(30), (nested(29),), (("a", nested(28)),), (("a", 1), ("a", 10 ** 30)), 0, 1,
    (("x", 1), ("c", 1)), (("x", 1), ("x", 1)), (("x", -1),), (("a", 99), ("A", 1)),
)


def full_link(budget=1):
    return link_of(budget, **dict(zip(NAMES, steps(40, budget))))


def state(link):
    return (
        link.current_budget(), tuple((name, link.balance_of(name)) for name in link.names()), link.total(), len(link),
        link.changes(),
    )


def weak_names(balances, budget):
    """The first weak set of a dict of balances by its definition, taken by (balance, name)."""
    order = sorted(balances, key=lambda name: (balances[name], name))
    for size in range(1, len(order) + 1):
        if sum(balances[name] for name in order[:size]) < threshold(size, budget):
            return tuple(sorted(order[:size]))
    return None


class LinkCase(unittest.TestCase):
    def raises(self, link, kind, value, method, *arguments):
        """Check what a call raises, and that it changes nothing."""
        before = state(link)
        twin = link.clone()
        with self.assertRaises(CreditError) as caught:
            getattr(link, method)(*arguments)
        self.assertIs(type(caught.exception), kind)
        if kind in (FullLink, NothingToUndo):
            self.assertFalse(hasattr(caught.exception, "value"))
        elif kind in (Refused, OverBudget):
            self.assertEqual(caught.exception.value, value)
            self.assertTrue(is_plain(caught.exception.value))
        else:
            self.assertIs(caught.exception.value, value)
        self.assertEqual(state(link), before)
        self.assertTrue(link == twin)

    def holds(self, link, budget, **balances):
        self.assertEqual(link.current_budget(), budget)
        self.assertEqual(link.names(), tuple(sorted(balances)))
        self.assertEqual({name: link.balance_of(name) for name in link.names()}, balances)
        self.assertEqual(link.total(), sum(balances.values()))
        self.assertEqual(len(link), len(balances))
        self.assertTrue(is_plain((link.current_budget(), link.names(), link.total(), len(link), link.changes())))
        self.assertTrue(all(is_plain(link.balance_of(name)) for name in balances))


class ExampleTest(LinkCase):
    def test_of_27(self):
        link = Link(2)
        link.enter('a', 2)
        link.enter('b', 3)
        self.assertEqual((link.names(), link.balance_of('b'), link.total(), len(link)), (('a', 'b'), 3, 5, 2))

    def test_refused_of_27(self):
        link = Link(2)
        link.enter('a', 2)
        self.raises(link, Refused, ('a', 'b'), "enter", 'b', 2)

    def test_of_28(self):
        link = Link(2)
        link.enter('a', 4)
        link.enter('b', 4)
        link.withdraw('a', 2)
        self.assertEqual((link.spare_of('a'), link.spare_of('b')), (0, 1))

    def test_refused_of_28(self):
        link = Link(2)
        link.enter('a', 4)
        link.enter('b', 4)
        self.raises(link, Refused, ('a', 'b'), "set_budget", 4)

    def test_of_29(self):
        link = Link(2)
        link.enter('a', 2)
        link.enter('b', 3)
        self.assertEqual(
            (link.tick((('b', 2),)), link.tick((('a', 1), ('b', 1))), link.balance_of('a'), link.balance_of('b')),
            ('b', 'a', 3, 2),
        )

    def test_of_30(self):
        link = Link(2)
        link.enter('a', 5)
        twin = link.clone()
        link.tick((('a', 1),))
        before = link == twin
        link.undo()
        self.assertEqual((before, link == twin, link.changes(), twin.changes()), (False, True, 1, 0))


class NewLinkTest(LinkCase):
    def test_empty(self):
        for budget in (1, 2, 10 ** 6 - 1, 10 ** 6):
            with self.subTest(budget):
                link = Link(budget)
                self.holds(link, budget)
                self.assertEqual(link.changes(), 0)

    def test_bad_budget(self):
        for budget in NO_BUDGETS:
            with self.subTest(repr(budget)):
                with self.assertRaises(BadBudget) as caught:
                    Link(budget)
                self.assertIs(caught.exception.value, budget)


class EnterTest(LinkCase):
    def test_enters(self):
        link = Link(2)
        self.assertIsNone(link.enter("b", 3))
        self.assertIsNone(link.enter("abcdefgh", 10 ** 12))
        self.assertIsNone(link.enter("a", 2))
        self.holds(link, 2, a=2, abcdefgh=10 ** 12, b=3)
        self.assertEqual(link.changes(), 3)

    def test_all_letters(self):
        letters = "abcdefghijklmnopqrstuvwxyz"
        link = Link(1)
        for name in letters[::-1]:
            link.enter(name, 1)
        self.assertEqual(link.names(), tuple(letters))
        for at in range(7):
            name = (letters * 2)[at * 5:at * 5 + 8]
            link.enter(name, 1)
            self.assertEqual(link.balance_of(name), 1)

    def test_bad_name(self):
        link = link_of(2, a=2, b=3)
        for name in NO_NAMES:
            with self.subTest(repr(name)):
                self.raises(link, BadName, name, "enter", name, 9)

    def test_taken_name(self):
        link = link_of(2, a=2, b=3)
        self.raises(link, TakenName, "a", "enter", "a", 9)
        self.raises(link, TakenName, "b", "enter", "b", 0)

    def test_bad_amount(self):
        link = link_of(2, a=2, b=3)
        for balance in NO_AMOUNTS:
            with self.subTest(repr(balance)):
                self.raises(link, BadAmount, balance, "enter", "c", balance)

    def test_full(self):
        link = full_link(3)
        self.assertEqual(len(link), 40)
        self.raises(link, FullLink, None, "enter", "z", 10 ** 12)
        link.leave("aa")
        link.enter("z", 10 ** 12)
        self.assertEqual(len(link), 40)

    def test_the_order_of_the_exceptions(self):
        link = full_link(3)
        self.raises(link, BadName, "A", "enter", "A", -1)
        self.raises(link, TakenName, "aa", "enter", "aa", -1)
        self.raises(link, BadAmount, -1, "enter", "z", -1)
        self.raises(link, FullLink, None, "enter", "z", 0)
        self.raises(link, FullLink, None, "enter", "z", 9)
        small = link_of(2, a=2)
        self.raises(small, BadName, "A", "enter", "A", 0)
        self.raises(small, TakenName, "a", "enter", "a", 0)
        self.raises(small, BadAmount, False, "enter", "b", False)
        self.raises(small, Refused, ("b",), "enter", "b", 0)

    def test_refused_exactly_if_not_safe(self):
        for budget in (1, 2, 3):
            for one, two in itertools.product(range(7), repeat=2):
                link = Link(budget)
                held = {}
                for name, balance in (("b", one), ("a", two), ("c", 4)):
                    weak = weak_names({**held, name: balance}, budget)
                    with self.subTest(budget=budget, held=held, balance=balance):
                        if weak is None:
                            link.enter(name, balance)
                            held[name] = balance
                        else:
                            self.raises(link, Refused, weak, "enter", name, balance)
                        self.holds(link, budget, **held)

    def test_the_first_weak_set_by_name(self):
        # The senders did not enter in the order of their names, and of equal balances the first name counts.
        link = link_of(2, d=4, b=3, c=2)
        self.raises(link, Refused, ("a", "c"), "enter", "a", 2)
        self.raises(link, Refused, ("c", "z"), "enter", "z", 2)
        self.raises(link_of(2, d=9, c=5, b=9), Refused, ("a",), "enter", "a", 1)
        self.raises(link_of(2, z=3, y=3, x=3), Refused, ("a", "x", "y", "z"), "enter", "a", 3)
        self.raises(link_of(3, d=5, b=5, a=5), Refused, ("a", "b", "c"), "enter", "c", 3)
        self.raises(link_of(3, d=5, c=5, b=5), Refused, ("a", "b", "c"), "enter", "a", 3)
        self.raises(link_of(3, a=5, c=5, b=5), Refused, ("a", "b", "z"), "enter", "z", 3)


class LeaveTest(LinkCase):
    def test_leaves(self):
        link = link_of(2, a=2, b=3, c=9)
        self.assertEqual(link.leave("b"), 3)
        self.holds(link, 2, a=2, c=9)
        self.assertEqual(link.leave("c"), 9)
        self.assertEqual(link.leave("a"), 2)
        self.holds(link, 2)
        self.assertEqual(link.changes(), 6)

    def test_never_refused(self):
        for order in (NAMES, NAMES[::-1], NAMES[1::2] + NAMES[::2]):
            link = full_link(7)
            for name in order:
                right = link.balance_of(name)
                self.assertEqual(link.leave(name), right)
                self.assertNotIn(name, link.names())
                self.assertTrue(is_plain(right))
            self.assertEqual(len(link), 0)

    def test_enters_again(self):
        link = link_of(2, a=2, b=3)
        link.leave("a")
        link.enter("a", 7)
        self.holds(link, 2, a=7, b=3)


class UnknownNameTest(LinkCase):
    def test_of_anything(self):
        for name in NO_NAMES + ("c", "aa", "abcdefgh"):
            link = link_of(2, a=2, b=3)
            for method, arguments in (
                ("leave", (name,)), ("balance_of", (name,)), ("deposit", (name, 1)), ("withdraw", (name, 1)),
                ("transfer", (name, "a", 1)), ("transfer", ("a", name, 1)), ("transfer", (name, name, 1)),
                ("spare_of", (name,)), ("deposit", (name, -1)), ("withdraw", (name, None)),
                ("transfer", (name, "a", "1")), ("transfer", ("a", name, True)), ("transfer", ("a", name, 99)),
                ("withdraw", (name, 99)),
            ):
                with self.subTest(name=repr(name), method=method):
                    self.raises(link, UnknownName, name, method, *arguments)

    def test_of_the_giver_first(self):
        link = link_of(2, a=2, b=3)
        for giver, taker in (("x", "y"), ("y", "x"), (None, "y"), ([], "A"), ("y", None)):
            with self.subTest(giver=giver, taker=taker):
                self.raises(link, UnknownName, giver, "transfer", giver, taker, 1)
                self.raises(link, UnknownName, giver, "transfer", giver, taker, -1)

    def test_without_senders(self):
        link = Link(2)
        for method, arguments in (
            ("leave", ("a",)), ("balance_of", ("a",)), ("deposit", ("a", 1)), ("withdraw", ("a", 1)),
            ("transfer", ("a", "a", 1)), ("spare_of", ("a",)), ("tick", ((("a", 0),),)),
        ):
            with self.subTest(method):
                self.raises(link, UnknownName, "a", method, *arguments)

    def test_after_leaving(self):
        link = link_of(2, a=2, b=3)
        link.leave("a")
        self.raises(link, UnknownName, "a", "balance_of", "a")


class AmountTest(LinkCase):
    def test_bad_amount(self):
        for amount in NO_AMOUNTS:
            link = link_of(2, a=4, b=4)
            for method, names in (("deposit", "a"), ("withdraw", "a"), ("transfer", "ab"), ("transfer", "aa")):
                with self.subTest(amount=repr(amount), method=method):
                    self.raises(link, BadAmount, amount, method, *names, amount)

    def test_deposit(self):
        link = link_of(2, a=2, b=3)
        self.assertIsNone(link.deposit("a", 5))
        self.assertIsNone(link.deposit("b", 0))
        self.assertIsNone(link.deposit("b", 10 ** 12))
        self.assertIsNone(link.deposit("b", 10 ** 12))
        self.holds(link, 2, a=7, b=2 * 10 ** 12 + 3)
        self.assertEqual(link.changes(), 6)

    def test_withdraw(self):
        link = link_of(2, a=9, b=9)
        self.assertIsNone(link.withdraw("a", 5))
        self.assertIsNone(link.withdraw("b", 0))
        self.holds(link, 2, a=4, b=9)
        self.assertEqual(link.changes(), 4)

    def test_withdraw_refused_exactly_if_not_safe(self):
        for budget in (1, 2, 3):
            for balances in itertools.product(range(budget, budget + 5), repeat=3):
                held = dict(zip("bca", balances))
                if weak_names(held, budget) is None:
                    for amount in range(9):
                        after = {**held, "c": held["c"] - amount}
                        weak = weak_names(after, budget)
                        link = link_of(budget, **held)
                        with self.subTest(budget=budget, held=held, amount=amount):
                            if weak is None:
                                self.assertIsNone(link.withdraw("c", amount))
                                self.holds(link, budget, **after)
                            else:
                                self.raises(link, Refused, weak, "withdraw", "c", amount)

    def test_a_balance_below_0(self):
        link = link_of(2, a=4, b=4, c=4)
        self.raises(link, Refused, ("b",), "withdraw", "b", 5)
        self.raises(link, Refused, ("b",), "withdraw", "b", 10 ** 12)
        self.raises(link, Refused, ("c",), "transfer", "c", "a", 10 ** 12)

    def test_balances_above_the_greatest_amount(self):
        link = link_of(1, a=10 ** 12, b=1)
        link.deposit("a", 10 ** 12)
        link.deposit("a", 10 ** 12)
        self.assertEqual(link.spare_of("a"), 3 * 10 ** 12 - 1)
        self.raises(link, BadAmount, 3 * 10 ** 12 - 1, "withdraw", "a", 3 * 10 ** 12 - 1)
        link.transfer("a", "b", 10 ** 12)
        link.deposit("b", 10 ** 12)
        self.holds(link, 1, a=2 * 10 ** 12, b=2 * 10 ** 12 + 1)
        self.assertEqual(link.tick((("b", 1),)), "a")
        self.holds(link, 1, a=2 * 10 ** 12 + 1, b=2 * 10 ** 12)
        self.assertEqual(link.leave("a"), 2 * 10 ** 12 + 1)

    def test_transfer(self):
        link = link_of(2, a=9, b=9)
        self.assertIsNone(link.transfer("a", "b", 5))
        self.assertIsNone(link.transfer("b", "a", 0))
        self.holds(link, 2, a=4, b=14)
        self.assertEqual(link.changes(), 4)

    def test_transfer_refused_exactly_if_not_safe(self):
        for balances in itertools.product(range(2, 7), repeat=3):
            held = dict(zip("bca", balances))
            if weak_names(held, 2) is None:
                for giver, taker in itertools.product("abc", repeat=2):
                    for amount in (0, 1, 2, 3, 9):
                        after = dict(held)
                        after[giver] -= amount
                        after[taker] += amount
                        weak = weak_names(after, 2)
                        link = link_of(2, **held)
                        with self.subTest(held=held, giver=giver, taker=taker, amount=amount):
                            if weak is None:
                                self.assertIsNone(link.transfer(giver, taker, amount))
                                self.holds(link, 2, **after)
                            else:
                                self.raises(link, Refused, weak, "transfer", giver, taker, amount)

    def test_transfer_to_the_same_sender(self):
        link = link_of(2, a=2, b=3)
        for amount in (0, 1, 2, 3, 99, 10 ** 12):
            before = link.changes()
            with self.subTest(amount):
                self.assertIsNone(link.transfer("a", "a", amount))
                self.holds(link, 2, a=2, b=3)
                self.assertEqual(link.changes(), before + 1)
        link.undo()
        self.holds(link, 2, a=2, b=3)
        self.assertEqual(link.changes(), 7)


class BudgetTest(LinkCase):
    def test_set_budget(self):
        link = link_of(2, a=9, b=9)
        self.assertIsNone(link.set_budget(3))
        self.holds(link, 3, a=9, b=9)
        self.assertIsNone(link.set_budget(3))
        self.assertEqual(link.changes(), 4)
        link.undo()
        link.undo()
        self.holds(link, 2, a=9, b=9)

    def test_bad_budget(self):
        for budget in NO_BUDGETS:
            for link in (Link(2), link_of(2, a=2, b=3)):
                with self.subTest(repr(budget)):
                    self.raises(link, BadBudget, budget, "set_budget", budget)

    def test_refused_exactly_if_not_safe(self):
        for balances in itertools.product(range(1, 7), repeat=3):
            held = dict(zip("bca", balances))
            link = link_of(1, **held)
            for budget in range(1, 9):
                weak = weak_names(held, budget)
                with self.subTest(held=held, budget=budget):
                    if weak is None:
                        self.assertIsNone(link.set_budget(budget))
                        self.holds(link, budget, **held)
                    else:
                        self.raises(link, Refused, weak, "set_budget", budget)

    def test_smaller_ones_are_never_refused(self):
        for budget in (2, 7, 1000):
            link = full_link(budget)
            for smaller in (budget, budget - 1, budget // 2, 1):
                with self.subTest(budget=budget, smaller=smaller):
                    self.assertIsNone(link.set_budget(smaller))
                    self.assertEqual(link.current_budget(), smaller)

    def test_without_senders(self):
        link = Link(1)
        link.set_budget(10 ** 6)
        link.set_budget(1)
        self.holds(link, 1)
        self.assertEqual(link.changes(), 2)


class SpareTest(LinkCase):
    def check(self, link):
        for name in link.names():
            found = link.spare_of(name)
            self.assertTrue(is_plain(found))
            twin = link.clone()
            if found <= 10 ** 12:
                self.assertIsNone(twin.withdraw(name, found))
                self.assertEqual(twin.spare_of(name), 0)
                twin.undo()
            if found < 10 ** 12:
                with self.assertRaises(Refused):
                    twin.withdraw(name, found + 1)
            self.assertTrue(twin == link)

    def test_exactly_what_withdraw_takes(self):
        for budget in (1, 2, 3):
            for balances in itertools.product(range(budget, budget + 5), repeat=3):
                held = dict(zip("bca", balances))
                if weak_names(held, budget) is None:
                    with self.subTest(budget=budget, held=held):
                        self.check(link_of(budget, **held))

    def test_many(self):
        for budget in (1, 7, 10 ** 6):
            link = full_link(budget)
            self.check(link)
            for name in NAMES[::3]:
                link.deposit(name, 3 * budget + 1)
            link.deposit(NAMES[5], 10 ** 12)
            self.check(link)

    def test_one_sender(self):
        self.assertEqual(link_of(5, a=9).spare_of("a"), 4)
        self.assertEqual(link_of(5, a=5).spare_of("a"), 0)

    def test_no_change(self):
        link = link_of(2, a=9)
        link.spare_of("a")
        self.assertEqual(link.changes(), 1)


class TickTest(LinkCase):
    def test_all_small_ticks(self):
        for budget in (1, 2, 3):
            for balances in itertools.product(range(budget, budget + 3), repeat=3):
                held = dict(zip("bca", balances))
                if weak_names(held, budget) is None:
                    for total in range(budget + 1):
                        for demand in splits(3, total):
                            with self.subTest(budget=budget, held=held, demand=demand):
                                self.check(budget, held, tuple(zip("abc", demand)))

    def check(self, budget, held, spends):
        link = link_of(budget, **held)
        after = dict(held)
        for name, amount in spends:
            after[name] -= amount
        right = min(after, key=lambda name: (after[name], name))
        self.assertGreaterEqual(after[right], 0)
        after[right] += budget
        changes = link.changes()
        found = link.tick(spends)
        self.assertEqual(found, right)
        self.assertTrue(is_plain(found))
        self.holds(link, budget, **after)
        self.assertEqual(link.changes(), changes + 1)
        self.assertIsNone(weak_names(after, budget))

    def test_some_senders(self):
        for spends in ((), (("a", 0),), (("b", 2),), (("c", 1),), (("a", 1), ("c", 1)), (("b", 0), ("c", 2))):
            with self.subTest(spends):
                self.check(2, {"a": 2, "b": 3, "c": 4}, spends)

    def test_the_least_balance_and_name(self):
        link = link_of(2, b=5, a=5, c=5)
        self.assertEqual(link.tick(()), "a")
        self.assertEqual(link.tick(()), "b")
        self.assertEqual(link.tick((("a", 2),)), "a")
        self.assertEqual(link.tick((("b", 1),)), "c")
        self.holds(link, 2, a=7, b=6, c=7)

    def test_many(self):
        for budget in (1, 7, 10 ** 6):
            link = full_link(budget)
            self.assertEqual(link.tick(tuple((name, 0) for name in NAMES)), "aa")
            self.assertEqual(link.tick((("aa", budget),)), "aa")

    def test_without_senders(self):
        link = Link(2)
        self.assertIsNone(link.tick(()))
        self.assertEqual(link.changes(), 1)
        self.holds(link, 2)
        self.raises(link, UnknownName, "a", "tick", (("a", 0),))
        self.raises(link, BadSpends, None, "tick", None)
        link.undo()
        self.assertEqual(link.changes(), 0)

    def test_bad_spends(self):
        for spends in SPENDS_OF_ANOTHER_FORM:
            with self.subTest(repr(spends)):
                self.raises(link_of(2, a=2, b=3), BadSpends, spends, "tick", spends)
                self.raises(Link(2), BadSpends, spends, "tick", spends)

    def test_unknown_name(self):
        link = link_of(2, b=2, d=3)
        for spends, name in (
            ((("a", 0),), "a"), ((("b", 0), ("c", 0)), "c"), ((("a", 0), ("b", 0), ("c", 0)), "a"),
            ((("b", 0), ("e", 0), ("f", 0)), "e"), ((("a", 99),), "a"), ((("b", 99), ("c", 0)), "c"),
            ((("abcdefgh", 10 ** 30),), "abcdefgh"),
        ):
            with self.subTest(spends):
                self.raises(link, UnknownName, name, "tick", spends)

    def test_over_budget(self):
        link = link_of(2, a=20, b=30, c=40)
        for spends, total in (
            ((("a", 3),), 3), ((("a", 1), ("b", 2)), 3), ((("a", 1), ("b", 1), ("c", 1)), 3), ((("c", 21),), 21),
            ((("a", 10 ** 12 + 1),), 10 ** 12 + 1), ((("a", 10 ** 30), ("b", 1)), 10 ** 30 + 1),
        ):
            with self.subTest(spends):
                self.raises(link, OverBudget, total, "tick", spends)

    def test_the_budget_of_now(self):
        link = link_of(2, a=20, b=30)
        link.set_budget(5)
        self.assertEqual(link.tick((("a", 2), ("b", 3))), "a")
        self.holds(link, 5, a=23, b=27)
        link.set_budget(1)
        self.raises(link, OverBudget, 2, "tick", (("a", 2),))

    def test_no_sender_ever_stalls(self):
        numbers = lcg(29)
        for count, budget in ((1, 3), (2, 2), (3, 4), (5, 3), (12, 10), (40, 5), (40, 1000)):
            link = link_of(budget, **dict(zip(NAMES, steps(count, budget))))
            for _ in range(60):
                amounts, left = {}, budget
                poor = sorted(link.names(), key=link.balance_of)
                for _ in range(4):
                    name = poor[next(numbers) % min(count, 5)] if next(numbers) % 4 else poor[next(numbers) % count]
                    amounts[name] = amounts.get(name, 0) + next(numbers) % (left + 1)
                    left = budget - sum(amounts.values())
                before = {name: link.balance_of(name) for name in link.names()}
                self.assertTrue(all(amounts[name] <= before[name] for name in amounts))
                granted = link.tick(tuple((name, amounts[name]) for name in sorted(amounts)))
                self.assertGreaterEqual(link.balance_of(granted), budget)
                self.assertIsNone(weak_names({name: link.balance_of(name) for name in link.names()}, budget))


class UndoTest(LinkCase):
    def test_each_kind_of_change(self):
        link = Link(2)
        seen = [state(link)]
        for method, arguments in (
            ("enter", ("b", 9)), ("enter", ("a", 9)), ("deposit", ("a", 3)), ("deposit", ("a", 0)),
            ("withdraw", ("b", 2)), ("transfer", ("a", "b", 4)), ("transfer", ("a", "a", 4)), ("set_budget", (3,)),
            ("set_budget", (3,)), ("tick", ((("a", 1),),)), ("tick", ((),)), ("leave", ("a",)), ("enter", ("a", 5)),
            ("leave", ("b",)), ("leave", ("a",)), ("set_budget", (10 ** 6,)), ("tick", ((),)),
        ):
            getattr(link, method)(*arguments)
            seen.append(state(link))
            self.assertEqual(link.changes(), len(seen) - 1)
        while len(seen) > 1:
            self.assertEqual(state(link), seen.pop())
            self.assertIsNone(link.undo())
        self.assertEqual(state(link), seen[0])
        self.raises(link, NothingToUndo, None, "undo")
        self.raises(link, NothingToUndo, None, "undo")

    def test_one_by_one(self):
        for method, arguments in (
            ("enter", ("c", 9)), ("leave", ("a",)), ("deposit", ("a", 3)), ("withdraw", ("b", 2)),
            ("transfer", ("a", "b", 1)), ("set_budget", (1,)), ("tick", ((("a", 1),),)),
        ):
            with self.subTest(method):
                link = link_of(2, a=9, b=9)
                twin = link.clone()
                getattr(link, method)(*arguments)
                self.assertFalse(link == twin)
                link.undo()
                self.assertTrue(link == twin)
                self.assertEqual(link.changes(), 2)

    def test_a_change_after_an_undo(self):
        link = link_of(2, a=9)
        link.deposit("a", 1)
        link.undo()
        link.deposit("a", 2)
        link.deposit("a", 4)
        link.undo()
        self.holds(link, 2, a=11)
        link.undo()
        self.holds(link, 2, a=9)
        link.undo()
        self.holds(link, 2)
        self.raises(link, NothingToUndo, None, "undo")

    def test_what_is_no_change(self):
        link = link_of(2, a=9, b=9)
        for method, arguments in (
            ("names", ()), ("balance_of", ("a",)), ("total", ()), ("current_budget", ()), ("spare_of", ("a",)),
            ("changes", ()), ("clone", ()), ("__len__", ()),
        ):
            getattr(link, method)(*arguments)
            self.assertEqual(link.changes(), 2)

    def test_many_changes(self):
        link = link_of(1, a=1, b=1)
        for at in range(3000):
            link.tick((("ab"[at % 2], 1),))
        self.assertEqual(link.changes(), 3002)
        for _ in range(3002):
            link.undo()
        self.holds(link, 1)


class CloneTest(LinkCase):
    def test_shares_nothing(self):
        for method, arguments in (
            ("enter", ("c", 9)), ("leave", ("a",)), ("deposit", ("a", 3)), ("withdraw", ("b", 2)),
            ("transfer", ("a", "b", 1)), ("set_budget", (1,)), ("tick", ((("a", 1),),)), ("undo", ()),
        ):
            with self.subTest(method):
                link = link_of(2, a=9, b=9)
                twin = link.clone()
                getattr(link, method)(*arguments)
                self.holds(twin, 2, a=9, b=9)
                self.assertEqual(twin.changes(), 0)
                other = link_of(2, a=9, b=9)
                twin = other.clone()
                if method != "undo":
                    getattr(twin, method)(*arguments)
                    self.assertEqual(twin.changes(), 1)
                self.holds(other, 2, a=9, b=9)
                self.assertEqual(other.changes(), 2)

    def test_no_changes(self):
        twin = link_of(2, a=9, b=9).clone()
        self.assertEqual(twin.changes(), 0)
        self.raises(twin, NothingToUndo, None, "undo")
        self.assertIsInstance(twin, Link)

    def test_clone_of_a_clone(self):
        link = Link(3)
        self.assertTrue(link.clone().clone() == link)


class EqualTest(LinkCase):
    def test_equal(self):
        one = link_of(2, a=2, b=3)
        other = Link(1)
        other.enter("b", 9)
        other.enter("a", 2)
        other.withdraw("b", 6)
        other.set_budget(2)
        self.assertIs(one == other, True)
        self.assertIs(one != other, False)
        self.assertIs(Link(2) == Link(2), True)

    def test_not_equal(self):
        one = link_of(2, a=3, b=4)
        for other in (
            link_of(1, a=3, b=4), link_of(2, a=4, b=3), link_of(2, a=3, c=4), link_of(2, a=3, b=5), link_of(2, a=3),
            link_of(2, a=3, b=4, c=5), Link(2),
        ):
            self.assertIs(one == other, False)
            self.assertIs(other == one, False)
            self.assertIs(one != other, True)
        self.assertIs(Link(2) == Link(3), False)

    def test_no_other_object(self):
        class Twin:
            def __init__(self):
                self.budget, self.balances, self.past = 2, {}, []

        for other in ODD_THINGS + ("budget 2", 2, 0, (2, {}), {}, Twin(), Link, object()):
            with self.subTest(repr(other)):
                self.assertIs(Link(2) == other, False)
                self.assertIs(Link(2) != other, True)


class PlayTest(LinkCase):
    """A link beside a plain model of it, under changes that look random."""

    def expected(self, budget, held, method, arguments):
        """What the document says of a call: (kind, value) of what it raises, or the new (budget, balances)."""
        after = dict(held)
        if method == "enter":
            name, balance = arguments
            if name in held:
                return (TakenName, name)
            if len(held) == 40:
                return (FullLink, None)
            after[name] = balance
        elif method == "set_budget":
            budget = arguments[0]
        else:
            unknown = [name for name in arguments[:-1] or arguments if name not in held]
            if unknown:
                return (UnknownName, unknown[0])
            if method == "leave":
                del after[arguments[0]]
            elif method == "deposit":
                after[arguments[0]] += arguments[1]
            else:
                after[arguments[0]] -= arguments[-1]
            if method == "transfer":
                after[arguments[1]] += arguments[-1]
        weak = weak_names(after, budget)
        return (budget, after) if weak is None else (Refused, weak)

    def arguments(self, method, held, budget, numbers):
        def name():
            known = sorted(held) if held and next(numbers) % 4 == 0 else NAMES[:6]
            return known[next(numbers) % len(known)]

        amount = next(numbers) % (3 * budget + 1)
        return {
            "enter": lambda: (name(), amount + budget), "leave": lambda: (name(),), "deposit": lambda: (name(), amount),
            "withdraw": lambda: (name(), amount), "transfer": lambda: (name(), name(), amount),
            "set_budget": lambda: (next(numbers) % 6 + 1,),
        }[method]()

    def test_all_changes_mixed(self):
        methods = ("enter", "enter", "leave", "deposit", "withdraw", "transfer", "set_budget", "undo", "tick")
        kinds = {}
        for seed in range(25):
            numbers = lcg(seed)
            link, budget, held, past = Link(2), 2, {}, []
            for _ in range(120):
                method = methods[next(numbers) % len(methods)]
                if method == "undo":
                    if past:
                        link.undo()
                        budget, held = past.pop()
                elif method == "tick":
                    past.append((budget, held))
                    held = dict(held)
                    found = link.tick(())
                    if held:
                        right = min(held, key=lambda name: (held[name], name))
                        held[right] += budget
                        self.assertEqual(found, right)
                else:
                    arguments = self.arguments(method, held, budget, numbers)
                    kind, value = self.expected(budget, held, method, arguments)
                    kinds[method, kind if isinstance(kind, type) else None] = True
                    if isinstance(kind, type):
                        with self.assertRaises(kind) as caught:
                            getattr(link, method)(*arguments)
                        self.assertEqual(getattr(caught.exception, "value", None), value)
                    else:
                        right = held[arguments[0]] if method == "leave" else None
                        self.assertEqual(getattr(link, method)(*arguments), right)
                        past.append((budget, held))
                        budget, held = kind, value
                self.holds(link, budget, **held)
                self.assertEqual(link.changes(), len(past))
        self.assertTrue(all((method, Refused) in kinds for method in ("enter", "withdraw", "transfer", "set_budget")))
        self.assertFalse(any((method, Refused) in kinds for method in ("leave", "deposit")))


class InterfaceTest(LinkCase):
    METHODS = {
        "enter": ("name", "balance"), "leave": ("name",), "names": (), "balance_of": ("name",), "total": (),
        "current_budget": (), "deposit": ("name", "amount"), "withdraw": ("name", "amount"),
        "transfer": ("giver", "taker", "amount"), "set_budget": ("budget",), "spare_of": ("name",),
        "tick": ("spends",), "undo": (), "changes": (), "clone": (), "__init__": ("budget",), "__len__": (),
    }

    def test_defined_in_the_class(self):
        self.assertEqual(Link.__module__, "creditfloor.links")
        self.assertEqual(module.Link.__bases__, (object,))
        for name in list(self.METHODS) + ["__eq__"]:
            with self.subTest(name):
                self.assertIn(name, vars(Link))

    def test_parameters(self):
        for name, right in self.METHODS.items():
            with self.subTest(name):
                self.assertEqual(parameters(getattr(Link, name))[1:], right)

    def test_by_name(self):
        link = Link(budget=2)
        link.enter(balance=9, name="b")
        link.enter(balance=8, name="a")
        self.assertEqual(link.balance_of(name="a"), 8)
        link.deposit(amount=2, name="a")
        link.withdraw(amount=1, name="b")
        link.transfer(amount=3, taker="b", giver="a")
        self.holds(link, 2, a=7, b=11)
        self.assertEqual(link.spare_of(name="b"), 9)
        link.set_budget(budget=3)
        self.assertEqual(link.tick(spends=(("a", 1), ("b", 2))), "a")
        self.assertEqual(link.leave(name="b"), 9)
        self.holds(link, 3, a=9)

    def test_arguments_stay(self):
        link = link_of(2, a=9, b=9)
        spends, name, odd = (("a", 1), ("b", 1)), ["a", ["b"]], [("a", 1)]
        link.tick(spends)
        self.assertRaises(UnknownName, link.leave, name)
        self.assertRaises(BadName, link.enter, name, name)
        self.assertRaises(BadAmount, link.deposit, "a", name)
        self.assertRaises(BadSpends, link.tick, odd)
        self.assertEqual((spends, name, odd), ((("a", 1), ("b", 1)), ["a", ["b"]], [("a", 1)]))

    def test_as_safe_says(self):
        # A link is refused the same balances as is_safe, with the same first weak set.
        for balances in itertools.product(range(2, 6), repeat=3):
            link = link_of(1, **dict(zip("abc", balances)))
            with self.subTest(balances):
                if is_safe(balances, 2):
                    link.set_budget(2)
                else:
                    weak = tuple("abc"[at] for at in first_weak_set(balances, 2))
                    self.raises(link, Refused, weak, "set_budget", 2)


if __name__ == "__main__":
    unittest.main()
