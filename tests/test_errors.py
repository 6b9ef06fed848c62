"""Point [2] and the interface of errors.py."""

import unittest

from creditfloor import errors

WITH_VALUE = (
    "BadDemand", "Stall", "NoSender", "NotSafe", "OtherTotal", "TooMany", "BadNumber", "NotMinimal", "BadName",
    "TakenName", "UnknownName", "BadAmount", "BadBudget", "BadSpends", "OverBudget", "Refused", "BadText",
    "BadCommand",
)
WITHOUT = ("AlreadySafe", "FullLink", "NothingToUndo")


class ErrorsTest(unittest.TestCase):
    def test_the_base_class(self):
        self.assertEqual(errors.CreditError.__bases__, (ValueError,))

    def test_direct_subclasses(self):
        for name in WITH_VALUE + WITHOUT:
            with self.subTest(name):
                self.assertEqual(getattr(errors, name).__bases__, (errors.CreditError,))

    def test_defined_in_the_file(self):
        for name in ("CreditError",) + WITH_VALUE + WITHOUT:
            with self.subTest(name):
                self.assertEqual(getattr(errors, name).__module__, "creditfloor.errors")
                self.assertEqual(getattr(errors, name).__name__, name)

    def test_the_argument_is_kept(self):
        for name in WITH_VALUE:
            for value in ((1, 2), "text", None, 0, -1, (), {"a": [1]}, True):
                with self.subTest(name=name, value=value):
                    error = getattr(errors, name)(value)
                    self.assertIs(error.value, value)

    def test_the_argument_by_name(self):
        for name in WITH_VALUE:
            with self.subTest(name):
                self.assertEqual(getattr(errors, name)(value=(1,)).value, (1,))

    def test_the_argument_is_required(self):
        for name in WITH_VALUE:
            with self.subTest(name):
                self.assertRaises(TypeError, getattr(errors, name))

    def test_without_arguments(self):
        for name in WITHOUT:
            with self.subTest(name):
                with self.assertRaises(errors.CreditError) as caught:
                    raise getattr(errors, name)()
                self.assertFalse(hasattr(caught.exception, "value"))

    def test_raised_and_caught_as_value_error(self):
        for name in WITH_VALUE:
            with self.subTest(name):
                with self.assertRaises(ValueError) as caught:
                    raise getattr(errors, name)("x")
                self.assertEqual(caught.exception.value, "x")


if __name__ == "__main__":
    unittest.main()
