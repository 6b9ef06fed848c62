"""Point [2] and the interface of errors.py."""

import unittest

from creditfloor import errors
from creditfloor.attacks import attack
from creditfloor.links import Link
from creditfloor.minimal import minimal_at, number_of
from creditfloor.shell import Shell
from creditfloor.spares import spares
from creditfloor.texts import read_balances
from creditfloor.ticks import after_demand, after_grant
from creditfloor.transfers import transfers
from tests.helpers import NAMES, link_of

WITH_VALUE = (
    "BadDemand", "Stall", "NoSender", "NotSafe", "OtherTotal", "TooMany", "BadNumber", "NotMinimal", "BadName",
    "TakenName", "UnknownName", "BadAmount", "BadBudget", "BadSpends", "OverBudget", "Refused", "BadText",
    "BadCommand",
)
WITHOUT = ("AlreadySafe", "FullLink", "NothingToUndo")

# For each exception a call that raises it, and its value.
RAISED = {
    "BadDemand": (lambda: after_demand((2, 2), (3, 0), 2), (3, 0)),
    "Stall": (lambda: after_demand((2, 1), (0, 2), 2), (1,)),
    "NoSender": (lambda: after_grant((2, 2), 2, 2), 2),
    "NotSafe": (lambda: spares((9, 2, 2), 2), (1, 2)),
    "OtherTotal": (lambda: transfers((2, 3), (2, 4), 2), 6),
    "TooMany": (lambda: transfers((2, 2000), (2000, 2), 1), 1000),
    "BadNumber": (lambda: minimal_at(2, 2, 2), 2),
    "NotMinimal": (lambda: number_of((3, 3), 2), (3, 3)),
    "BadName": (lambda: Link(2).enter("A", 2), "A"),
    "TakenName": (lambda: link_of(2, a=2).enter("a", 9), "a"),
    "UnknownName": (lambda: Link(2).leave("a"), "a"),
    "BadAmount": (lambda: Link(2).enter("a", -1), -1),
    "BadBudget": (lambda: Link(0), 0),
    "BadSpends": (lambda: Link(2).tick(None), None),
    "OverBudget": (lambda: link_of(2, a=2).tick((("a", 3),)), 3),
    "Refused": (lambda: link_of(2, a=2).enter("b", 2), ("a", "b")),
    "BadText": (lambda: read_balances(""), 0),
    "BadCommand": (lambda: Shell(2).run("help"), "help"),
    "AlreadySafe": (lambda: attack((2,), 2), None),
    "FullLink": (lambda: link_of(1, **{name: 1 for name in NAMES}).enter("z", 1), None),
    "NothingToUndo": (lambda: Link(2).undo(), None),
}


class ErrorsTest(unittest.TestCase):
    def test_the_base_class(self):
        self.assertEqual(errors.CreditError.__bases__, (ValueError,))

    def test_direct_subclasses(self):
        for name in WITH_VALUE + WITHOUT:
            with self.subTest(name):
                self.assertEqual(getattr(errors, name).__bases__, (errors.CreditError,))

    def test_defined_in_the_file(self):
        for name in ("CreditError",) + WITH_VALUE + WITHOUT:
            with self.subTest(name):
                self.assertEqual(getattr(errors, name).__module__, "creditfloor.errors")
                self.assertEqual(getattr(errors, name).__name__, name)

    def test_the_argument_is_kept(self):
        for name in WITH_VALUE:
            for value in ((1, 2), "text", None, 0, -1, (), {"a": [1]}, True):
                with self.subTest(name=name, value=value):
                    error = getattr(errors, name)(value)
                    self.assertIs(error.value, value)

    def test_the_argument_by_name(self):
        for name in WITH_VALUE:
            with self.subTest(name):
                self.assertEqual(getattr(errors, name)(value=(1,)).value, (1,))

    def test_the_argument_is_required(self):
        for name in WITH_VALUE:
            with self.subTest(name):
                self.assertRaises(TypeError, getattr(errors, name))

    def test_without_arguments(self):
        for name in WITHOUT:
            with self.subTest(name):
                with self.assertRaises(errors.CreditError) as caught:
                    raise getattr(errors, name)()
                self.assertFalse(hasattr(caught.exception, "value"))

    def test_raised_and_caught_as_value_error(self):
        for name in WITH_VALUE:
            with self.subTest(name):
                with self.assertRaises(ValueError) as caught:
                    raise getattr(errors, name)("x")
                self.assertEqual(caught.exception.value, "x")

    def test_each_is_raised(self):
        self.assertEqual(set(RAISED), set(WITH_VALUE + WITHOUT))
        for name, (call, value) in RAISED.items():
            with self.subTest(name):
                with self.assertRaises(ValueError) as caught:
                    call()
                self.assertIs(type(caught.exception), getattr(errors, name))
                self.assertIsInstance(caught.exception, errors.CreditError)
                for other in WITH_VALUE + WITHOUT:
                    self.assertIs(isinstance(caught.exception, getattr(errors, other)), other == name)
                self.assertIs(hasattr(caught.exception, "value"), name in WITH_VALUE)
                self.assertEqual(getattr(caught.exception, "value", None), value)


if __name__ == "__main__":
    unittest.main()
