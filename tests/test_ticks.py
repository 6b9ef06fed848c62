"""Points [2], [3], [7] and [8]."""

import unittest

from creditfloor import ticks as module
from creditfloor.errors import BadDemand, NoSender, Stall
from creditfloor.ticks import after_demand, after_grant, after_tick, is_balances, is_demand, stalled
from tests.helpers import ODD_THINGS, nested


ODD_SENDERS = ODD_THINGS + (-1, -3, 3, 4, 10 ** 30, -10 ** 30, "0", (0,), [0])


class Checked(unittest.TestCase):
    def assert_raises_with(self, error, value, function, *arguments):
        before = repr(arguments)
        with self.assertRaises(error) as caught:
            function(*arguments)
        self.assertIs(type(caught.exception), error)
        # By their texts, as True equals 1 and an Odd equals everything.
        self.assertEqual(repr(caught.exception.value), repr(value))
        self.assertEqual(repr(arguments), before)


class IsBalancesTest(unittest.TestCase):
    def test_balances(self):
        for thing in ((0,), (1,), (10 ** 12,), (2, 3, 4), (0,) * 40, (10 ** 12,) * 40, (4, 0, 4), tuple(range(40))):
            with self.subTest(thing):
                self.assertIs(is_balances(thing), True)

    def test_numbers_of_parts(self):
        for count in range(45):
            with self.subTest(count):
                self.assertIs(is_balances((1,) * count), 1 <= count <= 40)

    def test_wrong_parts(self):
        for part in (-1, 10 ** 12 + 1, -10 ** 12, True, False, None, "", "1", b"1", (), (1,), [1], {}, object()):
            for thing in ((part,), (1, part), (part, 1), (1, part, 1), (1,) * 39 + (part,)):
                with self.subTest(thing):
                    self.assertIs(is_balances(thing), False)

    def test_other_things(self):
        for thing in ODD_THINGS + (0, 1, 10 ** 12):
            with self.subTest(repr(thing)):
                self.assertIs(is_balances(thing), False)

    def test_by_name(self):
        self.assertIs(is_balances(thing=(1, 2)), True)


class IsDemandTest(unittest.TestCase):
    def test_example(self):
        self.assertEqual(
            (is_demand((1, 1), 2, 2), is_demand((2, 1), 2, 2), stalled((2, 1), (1, 2))), (True, False, (1,))
        )

    def test_sums(self):
        for thing, budget, right in (
            ((0,), 1, True), ((1,), 1, True), ((2,), 1, False), ((0, 0, 0), 2, True), ((0, 2, 0), 2, True),
            ((1, 0, 0), 2, True), ((1, 1, 1), 2, False), ((3, 0, 0), 2, False), ((10 ** 6, 0), 10 ** 6, True),
            ((10 ** 6, 1), 10 ** 6, False), ((10 ** 12, 0), 10 ** 6, False), ((10 ** 12 + 1, 0), 10 ** 6, False),
            ((1,) * 40, 40, True), ((1,) * 40, 39, False), ((0,) * 40, 1, True),
        ):
            with self.subTest(thing=thing, budget=budget):
                self.assertIs(is_demand(thing, len(thing), budget), right)

    def test_numbers_of_senders(self):
        for count in (1, 2, 3, 39, 40):
            for parts in (0, 1, 2, 3, 39, 40, 41):
                with self.subTest(count=count, parts=parts):
                    self.assertIs(is_demand((0,) * parts, count, 2), parts == count)

    def test_negative_parts(self):
        for thing in ((-1, 1), (1, -1), (-1, 3), (3, -1), (-1, -1), (-10 ** 30, 0)):
            with self.subTest(thing):
                self.assertIs(is_demand(thing, 2, 2), False)

    def test_other_things(self):
        for thing in ODD_THINGS + (0, 1, 2):
            with self.subTest(repr(thing)):
                self.assertIs(is_demand(thing, 2, 2), False)

    def test_other_things_for_one_sender(self):
        for thing in ((True,), (False,), ("1",), (None,), ((1,),), ({},), [1], {0: 1}, "1", 1, None, nested(30)):
            with self.subTest(repr(thing)):
                self.assertIs(is_demand(thing, 1, 2), False)

    def test_by_name(self):
        self.assertIs(is_demand(budget=3, count=2, thing=(1, 2)), True)
        self.assertIs(is_demand(count=3, budget=2, thing=(1, 1)), False)


class StalledTest(unittest.TestCase):
    def test_none(self):
        self.assertEqual(stalled((2, 1), (0, 0)), ())
        self.assertEqual(stalled((2, 1), (2, 1)), ())
        self.assertEqual(stalled((0,), (0,)), ())

    def test_some(self):
        self.assertEqual(stalled((2, 1, 0), (2, 2, 1)), (1, 2))
        self.assertEqual(stalled((1, 5, 1), (2, 0, 2)), (0, 2))
        self.assertEqual(stalled((10 ** 12, 0), (10 ** 12 + 1, 0)), (0,))

    def test_all(self):
        self.assertEqual(stalled((0,), (1,)), (0,))
        self.assertEqual(stalled((0, 1, 2), (1, 2, 3)), (0, 1, 2))
        self.assertEqual(stalled((0,) * 40, (1,) * 40), tuple(range(40)))

    def test_above_every_budget(self):
        self.assertEqual(stalled((10, 20), (10 ** 7, 10 ** 9)), (0, 1))
        self.assertEqual(stalled((10 ** 9, 20), (10 ** 8, 10 ** 8)), (1,))

    def test_by_name(self):
        self.assertEqual(stalled(demand=(1, 2), balances=(2, 1)), (1,))


class AfterDemandTest(Checked):
    def test_examples(self):
        self.assertEqual(
            (after_demand((2, 3, 4), (0, 1, 1), 2), after_tick((2, 3, 4), (2, 0, 0), 0, 2)), ((2, 2, 3), (2, 3, 4))
        )
        self.assert_raises_with(Stall, (1,), after_demand, (2, 1), (0, 2), 2)

    def test_right(self):
        for balances, demand, budget, after in (
            ((5,), (0,), 1, (5,)), ((5,), (5,), 5, (0,)), ((0, 0), (0, 0), 3, (0, 0)), ((3, 1), (1, 1), 9, (2, 0)),
            ((10 ** 12, 1), (10 ** 6, 0), 10 ** 6, (10 ** 12 - 10 ** 6, 1)),
            ((1,) * 40, (0, 1) * 20, 20, (1, 0) * 20),
        ):
            with self.subTest(balances=balances, demand=demand):
                self.assertEqual(after_demand(balances, demand, budget), after)
                self.assertIs(type(after_demand(balances, demand, budget)), tuple)

    def test_bad_demand(self):
        for demand in ODD_THINGS + ((1,), (1, 1, 0), (2, 1), (-1, 1), (3, -1), [1, 1]):
            with self.subTest(repr(demand)):
                self.assert_raises_with(BadDemand, demand, after_demand, (9, 9), demand, 2)

    def test_stall(self):
        self.assert_raises_with(Stall, (0,), after_demand, (0,), (1,), 1)
        self.assert_raises_with(Stall, (0, 2), after_demand, (0, 5, 0), (1, 1, 1), 3)
        self.assert_raises_with(Stall, (0, 1), after_demand, (0, 0), (1, 1), 2)

    def test_bad_demand_before_stall(self):
        self.assert_raises_with(BadDemand, (2, 2), after_demand, (1, 1), (2, 2), 3)
        self.assert_raises_with(BadDemand, (2,), after_demand, (1, 1), (2,), 3)

    def test_arguments_stay(self):
        balances, demand = (2, 3, 4), (0, 1, 1)
        after_demand(balances, demand, 2)
        self.assertEqual((balances, demand), ((2, 3, 4), (0, 1, 1)))
        things = [1, [1]]
        self.assert_raises_with(BadDemand, [1, [1]], after_demand, (2, 3), things, 2)
        self.assertEqual(things, [1, [1]])

    def test_by_name(self):
        self.assertEqual(after_demand(budget=2, demand=(0, 1, 1), balances=(2, 3, 4)), (2, 2, 3))


class AfterGrantTest(Checked):
    def test_right(self):
        self.assertEqual(after_grant((2, 2, 3), 0, 2), (4, 2, 3))
        self.assertEqual(after_grant((2, 2, 3), 1, 2), (2, 4, 3))
        self.assertEqual(after_grant((2, 2, 3), 2, 2), (2, 2, 5))
        self.assertEqual(after_grant((0,), 0, 1), (1,))
        self.assertEqual(after_grant((10 ** 12, 0), 0, 10 ** 6), (10 ** 12 + 10 ** 6, 0))
        self.assertEqual(after_grant((0,) * 40, 39, 7), (0,) * 39 + (7,))
        self.assertIs(type(after_grant((2, 2, 3), 0, 2)), tuple)

    def test_no_sender(self):
        for sender in ODD_SENDERS:
            with self.subTest(repr(sender)):
                self.assert_raises_with(NoSender, sender, after_grant, (2, 2, 3), sender, 2)

    def test_no_sender_of_one(self):
        for sender in (-1, 1, True, False, "0", None):
            with self.subTest(repr(sender)):
                self.assert_raises_with(NoSender, sender, after_grant, (5,), sender, 2)

    def test_arguments_stay(self):
        balances = (2, 2, 3)
        after_grant(balances, 1, 2)
        self.assertEqual(balances, (2, 2, 3))

    def test_by_name(self):
        self.assertEqual(after_grant(budget=2, sender=1, balances=(2, 2, 3)), (2, 4, 3))


class AfterTickTest(Checked):
    def test_right(self):
        self.assertEqual(after_tick((2, 3, 4), (0, 1, 1), 2, 2), (2, 2, 5))
        self.assertEqual(after_tick((2, 3, 4), (0, 0, 0), 1, 2), (2, 5, 4))
        self.assertEqual(after_tick((5,), (5,), 0, 5), (5,))
        self.assertIs(type(after_tick((5,), (5,), 0, 5)), tuple)

    def test_both_steps(self):
        for balances in ((2, 2), (2, 3), (9, 4)):
            for demand in ((0, 0), (1, 0), (0, 1), (1, 1), (2, 0), (0, 2)):
                for sender in (0, 1):
                    with self.subTest(balances=balances, demand=demand, sender=sender):
                        left = after_demand(balances, demand, 2)
                        self.assertEqual(after_tick(balances, demand, sender, 2), after_grant(left, sender, 2))

    def test_bad_demand(self):
        for demand in ODD_THINGS + ((1,), (2, 1), (-1, 1)):
            with self.subTest(repr(demand)):
                self.assert_raises_with(BadDemand, demand, after_tick, (9, 9), demand, 0, 2)

    def test_no_sender(self):
        for sender in ODD_SENDERS:
            with self.subTest(repr(sender)):
                self.assert_raises_with(NoSender, sender, after_tick, (2, 2, 3), (1, 1, 0), sender, 2)

    def test_stall(self):
        self.assert_raises_with(Stall, (1,), after_tick, (2, 1), (0, 2), 1, 2)
        self.assert_raises_with(Stall, (0, 1), after_tick, (0, 0), (1, 1), 0, 2)

    def test_the_first_named_is_raised(self):
        self.assert_raises_with(BadDemand, (0, 3), after_tick, (2, 1), (0, 3), 0, 2)
        self.assert_raises_with(BadDemand, (0, 3), after_tick, (2, 1), (0, 3), 2, 2)
        self.assert_raises_with(BadDemand, None, after_tick, (2, 1), None, None, 2)
        self.assert_raises_with(NoSender, 2, after_tick, (2, 1), (0, 2), 2, 2)
        self.assert_raises_with(NoSender, -1, after_tick, (2, 1), (0, 2), -1, 2)
        self.assert_raises_with(NoSender, True, after_tick, (2, 1), (0, 2), True, 2)

    def test_arguments_stay(self):
        balances, demand = (2, 3, 4), (2, 0, 0)
        after_tick(balances, demand, 0, 2)
        self.assertEqual((balances, demand), ((2, 3, 4), (2, 0, 0)))

    def test_by_name(self):
        self.assertEqual(after_tick(budget=2, sender=2, demand=(0, 1, 1), balances=(2, 3, 4)), (2, 2, 5))


class InterfaceTest(unittest.TestCase):
    def test_defined_in_the_file(self):
        for name in ("is_balances", "is_demand", "stalled", "after_demand", "after_grant", "after_tick"):
            with self.subTest(name):
                self.assertEqual(getattr(module, name).__module__, "creditfloor.ticks")


if __name__ == "__main__":
    unittest.main()
