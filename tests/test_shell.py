"""Points [2], [4] (i) and [33]."""

import unittest

from creditfloor import shell as module
from creditfloor.attacks import attack, shows_attack
from creditfloor.errors import (
    BadBudget, BadCommand, CreditError, FullLink, NothingToUndo, OverBudget, Refused, TakenName, UnknownName,
)
from creditfloor.links import Link
from creditfloor.safety import is_safe
from creditfloor.shell import Shell
from creditfloor.texts import show_link
from creditfloor.thresholds import steps
from tests.helpers import NAMES, ODD_THINGS, Odd, first_weak_set, lcg, nested, parameters, tuples

NO_BUDGETS = ODD_THINGS + (0, -1, 10 ** 6 + 1, 10 ** 30, "2", b"2", (2,), [2], {2: 2}, "budget 2")
NO_LINES = tuple(thing for thing in ODD_THINGS if not isinstance(thing, str)) + (
    0, 1, -1, 10 ** 30, b"undo", b"list", ["list"], ["undo"], ("list",), {"list": 1}, Link(2), nested(30), Odd(), len,
)
NO_NUMBERS = (
    "", "00", "01", "-1", "+1", "1.0", "1,000", "1_000", "0x1", "a", "1a", "1000000000001", "9999999999999",
    "0000000000001", "10000000000000", "00000000000001", "9" * 20, "1" * 5000, "1\n", "\n1", "True", "None",
)
NO_NAMES = ("", "A", "aB", "a1", "1", "abcdefghi", "a" * 100, "a-b", "a_b", "a.", "~", "a\n", "\na")


def shell_of(budget, **balances):
    shell = Shell(budget)
    for name, balance in balances.items():
        shell.run(f"enter {name} {balance}")
    return shell


class ShellCase(unittest.TestCase):
    def answers(self, shell, *pairs):
        for line, right in pairs:
            with self.subTest(line):
                found = shell.run(line)
                self.assertEqual(found, right)
                self.assertIs(type(found), str)

    def raises(self, shell, line, kind, *value):
        """Check what a line raises, and that it changes nothing."""
        before = shell.run("list")
        with self.assertRaises(CreditError) as caught:
            shell.run(line)
        self.assertIs(type(caught.exception), kind)
        if value:
            self.assertEqual(caught.exception.value, value[0])
        else:
            self.assertFalse(hasattr(caught.exception, "value"))
        self.assertEqual(shell.run("list"), before)

    def no_command(self, shell, line):
        with self.subTest(repr(line)[:80]):
            before = shell.run("list")
            with self.assertRaises(BadCommand) as caught:
                shell.run(line)
            self.assertIs(caught.exception.value, line)
            self.assertEqual(shell.run("list"), before)


class NewShellTest(ShellCase):
    def test_example(self):
        shell = Shell(2)
        shell.run('enter a 2')
        shell.run('enter b 3')
        self.assertEqual(
            (shell.run('tick a 1 b 1'), shell.run('list'), shell.run('safe 2 2 9 2')),
            ('a', 'budget 2 / a 3 / b 2', 'no 0 2'),
        )

    def test_without_senders(self):
        for budget in (1, 2, 10 ** 6):
            self.answers(Shell(budget), ("list", f"budget {budget}"), ("total", "0"), ("tick", "-"))

    def test_bad_budget(self):
        for budget in NO_BUDGETS:
            with self.subTest(repr(budget)):
                with self.assertRaises(BadBudget) as caught:
                    Shell(budget)
                self.assertIs(caught.exception.value, budget)

    def test_two_shells(self):
        one, other = Shell(2), Shell(2)
        self.answers(one, ("enter a 5", "done"), ("budget 3", "done"))
        self.answers(other, ("list", "budget 2"), ("total", "0"))
        self.raises(other, "undo", NothingToUndo)
        self.answers(other, ("enter b 4", "done"))
        self.answers(one, ("list", "budget 3 / a 5"))


class CommandTest(ShellCase):
    def test_each_command(self):
        self.answers(
            Shell(2), ("enter b 9", "done"), ("enter a 9", "done"), ("list", "budget 2 / a 9 / b 9"),
            ("deposit a 3", "done"), ("balance a", "12"), ("withdraw b 4", "done"), ("balance b", "5"),
            ("transfer a b 2", "done"), ("list", "budget 2 / a 10 / b 7"), ("total", "17"), ("spare a", "8"),
            ("spare b", "5"), ("budget 3", "done"), ("list", "budget 3 / a 10 / b 7"), ("spare b", "4"),
            ("tick a 1 b 2", "b"), ("list", "budget 3 / a 9 / b 8"), ("tick", "b"), ("balance b", "11"),
            ("tick a 0", "a"), ("undo", "done"), ("balance a", "9"), ("undo", "done"), ("undo", "done"),
            ("undo", "done"), ("list", "budget 2 / a 10 / b 7"), ("leave a", "10"), ("list", "budget 2 / b 7"),
            ("transfer b b 99", "done"), ("leave b", "7"), ("list", "budget 2"), ("total", "0"), ("tick", "-"),
        )

    def test_edges_of_numbers(self):
        self.answers(
            Shell(1), ("enter a 1000000000000", "done"), ("deposit a 1000000000000", "done"), ("deposit a 0", "done"),
            ("balance a", "2000000000000"), ("spare a", "1999999999999"), ("withdraw a 1000000000000", "done"),
            ("total", "1000000000000"), ("budget 1000000", "done"), ("budget 1", "done"), ("enter abcdefgh 1", "done"),
            ("list", "budget 1 / a 1000000000000 / abcdefgh 1"), ("tick a 0 abcdefgh 1", "abcdefgh"),
        )

    def test_names_like_commands(self):
        shell = Shell(1)
        self.answers(shell, ("enter enter 5", "done"), ("enter tick 6", "done"), ("enter budget 7", "done"))
        self.answers(shell, ("list", "budget 1 / budget 7 / enter 5 / tick 6"), ("tick tick 1", "enter"))
        self.answers(shell, ("balance tick", "5"), ("leave enter", "6"), ("spare budget", "6"))

    def test_undo_of_each_command(self):
        for line in (
            "enter c 9", "deposit a 1", "withdraw a 1", "transfer a b 1", "transfer a a 1", "budget 1", "leave a",
            "tick", "tick a 1",
        ):
            with self.subTest(line):
                shell = shell_of(2, a=9, b=9)
                shell.run(line)
                self.answers(shell, ("undo", "done"), ("list", "budget 2 / a 9 / b 9"))
                self.answers(shell, ("undo", "done"), ("undo", "done"), ("list", "budget 2"))
                self.raises(shell, "undo", NothingToUndo)

    def test_questions_are_no_changes(self):
        shell = shell_of(2, a=9)
        for line in ("list", "total", "balance a", "spare a", "safe 2 2", "attack 2 1", "safe 9 1"):
            shell.run(line)
        self.answers(shell, ("undo", "done"), ("list", "budget 2"))

    def test_forty_senders(self):
        shell = shell_of(7, **dict(zip(NAMES, steps(40, 7))))
        self.raises(shell, "enter z 99", FullLink)
        self.raises(shell, "enter z 0", FullLink)
        self.answers(shell, ("tick " + " ".join(f"{name} 0" for name in NAMES), "aa"))

    def test_what_the_methods_raise(self):
        shell = shell_of(2, a=2, b=3)
        for line, kind, value in (
            ("enter a 9", TakenName, "a"), ("enter c 2", Refused, ("a", "c")), ("enter c 0", Refused, ("c",)),
            ("deposit c 1", UnknownName, "c"), ("withdraw c 1", UnknownName, "c"), ("withdraw a 1", Refused, ("a",)),
            ("withdraw b 1", Refused, ("a", "b")), ("withdraw b 99", Refused, ("b",)),
            ("transfer a b 1", Refused, ("a",)), ("transfer x y 1", UnknownName, "x"),
            ("transfer a y 1", UnknownName, "y"), ("budget 3", Refused, ("a",)), ("leave c", UnknownName, "c"),
            ("balance c", UnknownName, "c"), ("spare c", UnknownName, "c"), ("tick c 1", UnknownName, "c"),
            ("tick a 3", OverBudget, 3), ("tick a 1 b 2", OverBudget, 3),
            ("tick a 1000000000000", OverBudget, 10 ** 12), ("tick a 9 c 0 d 0", UnknownName, "c"),
        ):
            with self.subTest(line):
                self.raises(shell, line, kind, value)
        self.raises(Shell(2), "undo", NothingToUndo)

    def test_beside_a_link(self):
        numbers = lcg(33)
        shell, link = Shell(3), Link(3)
        for _ in range(600):
            name, other = NAMES[next(numbers) % 5], NAMES[next(numbers) % 5]
            amount = next(numbers) % 9
            calls = (
                ("enter", (name, amount + 3)), ("deposit", (name, amount)), ("withdraw", (name, amount)),
                ("transfer", (name, other, amount)), ("leave", (name,)), ("undo", ()), ("balance_of", (name,)),
                ("spare_of", (name,)), ("total", ()), ("set_budget", (amount % 4 + 1,)), ("tick", (((name, 1),),)),
            )
            method, arguments = calls[next(numbers) % len(calls)]
            word = {"balance_of": "balance", "spare_of": "spare", "set_budget": "budget"}.get(method, method)
            parts = arguments[0][0] if method == "tick" else arguments
            line = " ".join([word] + [str(part) for part in parts])
            with self.subTest(line=line, link=show_link(link)):
                try:
                    right = getattr(link, method)(*arguments)
                except CreditError as error:
                    self.raises(shell, line, type(error), *([error.value] if hasattr(error, "value") else []))
                else:
                    self.assertEqual(shell.run(line), "done" if right is None else str(right))
                self.assertEqual(shell.run("list"), show_link(link).replace("\n", " / "))


class QuestionTest(ShellCase):
    def line(self, word, budget, balances):
        return " ".join([word, str(budget)] + [str(balance) for balance in balances])

    def check(self, balances, budget):
        weak = first_weak_set(balances, budget)
        right = "yes" if weak is None else "no " + " ".join(str(at) for at in weak)
        shell = Shell(1)
        self.assertEqual(shell.run(self.line("safe", budget, balances)), right)
        found = shell.run(self.line("attack", budget, balances))
        if is_safe(balances, budget):
            self.assertEqual(found, "-")
        else:
            demand = tuple(int(word) for word in found.split(" "))
            self.assertIs(shows_attack(balances, budget, demand), True)
            self.assertEqual(demand, attack(balances, budget))
            self.assertEqual(found, " ".join(str(spent) for spent in demand))

    def test_small(self):
        for budget in (1, 2, 3):
            for balances in tuples(1, 5) + tuples(2, 5) + tuples(3, 4):
                with self.subTest(balances=balances, budget=budget):
                    self.check(balances, budget)

    def test_many(self):
        for budget in (1, 7, 10 ** 6):
            for count in (1, 2, 39, 40):
                right = steps(count, budget)
                for balances in (right, right[::-1], (0,) * count, (10 ** 12,) * count, right[:-1] + (right[-1] - 1,)):
                    with self.subTest(count=count, budget=budget):
                        self.check(balances, budget)

    def test_written_out(self):
        self.answers(
            Shell(9), ("safe 2 2 3 4", "yes"), ("safe 2 2 9 2", "no 0 2"), ("safe 2 1", "no 0"), ("safe 2 2", "yes"),
            ("attack 2 2 3 4", "-"), ("attack 2 2 2 9", "1 1 0"), ("attack 2 2", "-"), ("safe 1000000 999999", "no 0"),
            ("safe 1 1000000000000", "yes"), ("list", "budget 9"),
        )

    def test_how_many_numbers(self):
        for word, right in (("safe", "yes"), ("attack", "-")):
            shell = Shell(2)
            self.answers(shell, (self.line(word, 1, (1,)), right), (self.line(word, 1, (1,) * 40), right))
            self.no_command(shell, self.line(word, 1, (1,) * 41))
            self.no_command(shell, self.line(word, 1, (1,) * 100))
            self.no_command(shell, self.line(word, 1, ()))
            self.no_command(shell, word)

    def test_wrong_words(self):
        for word in ("safe", "attack"):
            shell = Shell(2)
            for number in NO_NUMBERS:
                self.no_command(shell, f"{word} {number} 5")
                self.no_command(shell, f"{word} 2 {number}")
                self.no_command(shell, f"{word} 2 5 {number} 5")
            for line in ("0 5", "1000001 5", "1000000000000 5", " 2 5", "2  5", "2 5 ", "2 a", "a 2", "2 5\n", "2"):
                self.no_command(shell, f"{word} {line}")


class NoCommandTest(ShellCase):
    def test_of_anything(self):
        for line in NO_LINES:
            self.no_command(shell_of(2, a=9, b=9), line)

    def test_other_words(self):
        shell = shell_of(2, a=9, b=9)
        for line in (
            "", " ", "  ", "\n", "a", "Enter c 9", "ENTER c 9", "entr c 9", "enters c 9", "help", "exit", "names",
            "changes", "clone", "set_budget 3", "balance_of a", "spare_of a", "current_budget", "name", "amount",
            "1", "budget", "Undo", "undo;", "list\n", "\nlist", "list\nlist", "tick\n", "a 2", "budget 2\na 9",
        ):
            self.no_command(shell, line)

    def test_too_few_and_too_many_words(self):
        shell = shell_of(2, a=9, b=9)
        for line in (
            "enter", "enter c", "enter c 9 9", "enter c d 9", "deposit", "deposit a", "deposit a 1 1", "withdraw",
            "withdraw a", "withdraw a 1 1", "transfer", "transfer a", "transfer a b", "transfer a 1",
            "transfer a b 1 1", "budget", "budget 2 2", "undo 1", "undo undo", "undo a", "leave", "leave a b", "leave a 9", "balance",
            "balance a b", "spare", "spare a b", "total a", "total 1", "list a", "list list", "tick a", "tick 1",
            "tick a 1 b", "tick a 1 1", "tick a b 1", "enter 9 c", "deposit 1 a", "budget a", "transfer 1 a b",
            "transfer a 1 b", "leave 9",
        ):
            self.no_command(shell, line)

    def test_blanks(self):
        shell = shell_of(2, a=9, b=9)
        for line in (
            "enter c 9", "deposit a 1", "withdraw a 1", "transfer a b 1", "budget 1", "undo", "leave a", "balance a",
            "spare a", "total", "tick", "tick a 1", "tick a 1 b 1", "list", "safe 2 2", "attack 2 1",
        ):
            self.no_command(shell, " " + line)
            self.no_command(shell, line + " ")
            self.no_command(shell, line + "\n")
            self.no_command(shell, line.replace(" ", "  ") if " " in line else line + "  ")
            self.no_command(shell, line.replace(" ", "\n") if " " in line else "\n" + line)

    def test_wrong_names(self):
        shell = shell_of(2, a=9, b=9)
        for name in NO_NAMES:
            for line in (
                "enter {} 9", "deposit {} 1", "withdraw {} 1", "transfer {} b 1", "transfer a {} 1", "leave {}",
                "balance {}", "spare {}", "tick {} 1", "tick a 1 {} 1",
            ):
                self.no_command(shell, line.format(name))

    def test_wrong_numbers(self):
        shell = shell_of(2, a=9, b=9)
        for number in NO_NUMBERS:
            for line in (
                "enter c {}", "deposit a {}", "withdraw a {}", "transfer a b {}", "transfer a a {}", "budget {}",
                "tick a {}", "tick a 1 b {}",
            ):
                self.no_command(shell, line.format(number))
        for line in ("budget 0", "budget 1000001", "budget 1000000000000"):
            self.no_command(shell, line)

    def test_the_names_of_a_tick(self):
        shell = shell_of(2, a=9, b=9, c=9)
        for line in (
            "tick b 1 a 1", "tick a 1 a 1", "tick a 0 a 0", "tick a 0 b 0 a 0", "tick a 0 c 0 b 0", "tick x 0 x 0",
            "tick x 9 c 9", "tick b 0 b 0 c 0",
        ):
            self.no_command(shell, line)

    def test_the_form_goes_first(self):
        # What no line can have is told before what no method takes.
        shell = shell_of(2, a=2, b=3)
        for line in ("enter a -1", "enter A 9", "deposit x 01", "transfer x y a", "tick x 9 b 9", "leave X"):
            self.no_command(shell, line)


class InterfaceTest(ShellCase):
    def test_defined_in_the_class(self):
        self.assertEqual(Shell.__module__, "creditfloor.shell")
        self.assertEqual(module.Shell.__bases__, (object,))
        self.assertIn("run", vars(Shell))
        self.assertIn("__init__", vars(Shell))

    def test_parameters(self):
        self.assertEqual(parameters(Shell.__init__)[1:], ("budget",))
        self.assertEqual(parameters(Shell.run)[1:], ("line",))

    def test_by_name(self):
        self.assertEqual(Shell(budget=5).run(line="list"), "budget 5")

    def test_arguments_stay(self):
        line = ["list", ["list"]]
        self.assertRaises(BadCommand, Shell(2).run, line)
        self.assertEqual(line, ["list", ["list"]])


if __name__ == "__main__":
    unittest.main()
