"""Points [2], [4] (i), [31] and [32]."""

import itertools
import unittest

from creditfloor import texts as module
from creditfloor.errors import BadText, CreditError
from creditfloor.links import Link
from creditfloor.texts import read_balances, read_link, show_balances, show_link
from creditfloor.thresholds import steps
from tests.helpers import NAMES, ODD_THINGS, Odd, is_plain, lcg, link_of, nested, parameters, tuples

NO_STRINGS = tuple(thing for thing in ODD_THINGS if not isinstance(thing, str)) + (
    0, 1, -1, 10 ** 30, ["1"], ("1", "2"), (1, 2), b"1", b"budget 2", ["budget 2"], {"budget": 2}, Link(2), nested(30),
    Odd(), read_link,
)
# None of these is a number, wherever it stands.
NO_NUMBERS = (
    "", "00", "01", "007", "-1", "-0", "+1", "1.0", "1,000", "1_000", "0x1", "1e3", "a", "a1", "1a", "O", "~", "!",
    "1000000000001", "9999999999999", "0000000000001", "10000000000000", "00000000000001", "99999999999999",
    "9" * 20, "1" * 5000, "'1'", "(1)", "1/2", "None", "True",
)
NO_NAMES = (
    "", "A", "aB", "a1", "1", "abcdefghi", "a" * 9, "a" * 100, "a-b", "a_b", "a.", "~", "-", "budget2", "Budget",
)


def full_text(count, budget=1, balance=10 ** 12):
    names = (NAMES + tuple("e" + letter for letter in "abcdefghij"))[:count]
    return "\n".join([f"budget {budget}"] + [f"{name} {balance}" for name in names])


class TextCase(unittest.TestCase):
    def bad(self, function, text, row):
        with self.assertRaises(CreditError) as caught:
            function(text)
        self.assertIs(type(caught.exception), BadText)
        self.assertEqual(caught.exception.value, row)
        self.assertTrue(is_plain(caught.exception.value))


class ExampleTest(TextCase):
    def test_of_32(self):
        link = Link(2)
        link.enter('b', 3)
        link.enter('a', 2)
        self.assertEqual(
            (show_balances((2, 0, 13)), show_link(link), read_link(show_link(link)) == link),
            ('2 0 13', 'budget 2\na 2\nb 3', True),
        )

    def test_not_safe_of_32(self):
        self.bad(read_link, 'budget 2\na 2\nb 2', 3)


class BalancesTest(TextCase):
    def test_show(self):
        for balances, text in (
            ((0,), "0"), ((7,), "7"), ((10 ** 12,), "1000000000000"), ((2, 0, 13), "2 0 13"), ((10, 100), "10 100"),
            ((0,) * 40, "0 " * 39 + "0"), ((10 ** 12, 0), "1000000000000 0"),
        ):
            with self.subTest(balances):
                self.assertEqual(show_balances(balances), text)
                self.assertIs(type(show_balances(balances)), str)
                self.assertEqual(read_balances(text), balances)

    def test_read_back(self):
        numbers = lcg(31)
        cases = tuples(1, 12) + tuples(2, 10) + tuples(3, 4)
        cases += [tuple(next(numbers) * 999999937 % (10 ** 12 + 1) for _ in range(count)) for count in range(1, 41)]
        cases += [(10 ** 12,) * 40, (0,) * 40, tuple(10 ** at for at in range(13))]
        for balances in cases:
            with self.subTest(balances):
                found = read_balances(show_balances(balances))
                self.assertEqual(found, balances)
                self.assertTrue(is_plain(found))

    def test_no_strings(self):
        for text in NO_STRINGS:
            with self.subTest(repr(text)):
                self.bad(read_balances, text, 0)

    def test_no_numbers(self):
        for word in NO_NUMBERS + ("\n", "1\n", "\n1"):
            for text in (word, f"{word} 1", f"1 {word}", f"1 {word} 2"):
                with self.subTest(repr(text)[:60]):
                    self.bad(read_balances, text, 0)

    def test_blanks_and_line_feeds(self):
        for text in (
            "", " ", "  ", " 1", "1 ", "1  2", " 1 2", "1 2 ", "1   2", "1\n2", "1 2\n", "\n1 2", "1\n", "\n", "1 \n2",
            "1,2", "1, 2", "1;2", "(1, 2)", "[1]", "budget 2",
        ):
            with self.subTest(repr(text)):
                self.bad(read_balances, text, 0)

    def test_how_many(self):
        self.assertEqual(read_balances(" ".join(["1"] * 40)), (1,) * 40)
        for count in (41, 42, 100):
            with self.subTest(count):
                self.bad(read_balances, " ".join(["1"] * count), 0)

    def test_the_greatest_number(self):
        self.assertEqual(read_balances("1000000000000 999999999999 9999"), (10 ** 12, 10 ** 12 - 1, 9999))
        self.bad(read_balances, "1000000000001", 0)

    def test_all_short_texts(self):
        for length in range(1, 5):
            for letters in itertools.product("01 -", repeat=length):
                text = "".join(letters)
                words = text.split(" ")
                right = all(word.isdigit() and (word == "0" or word[0] != "0") for word in words)
                with self.subTest(repr(text)):
                    if right:
                        self.assertEqual(read_balances(text), tuple(int(word) for word in words))
                    else:
                        self.bad(read_balances, text, 0)


class LinkTextTest(TextCase):
    def test_show(self):
        for link, text in (
            (Link(2), "budget 2"), (Link(10 ** 6), "budget 1000000"), (link_of(2, b=3, a=2), "budget 2\na 2\nb 3"),
            (link_of(1, b=10 ** 12, abcdefgh=1), "budget 1\nabcdefgh 1\nb 1000000000000"),
            (link_of(2, budget=2), "budget 2\nbudget 2"), (link_of(1, zz=5, z=4, a=3), "budget 1\na 3\nz 4\nzz 5"),
        ):
            with self.subTest(text):
                self.assertEqual(show_link(link), text)
                self.assertIs(type(show_link(link)), str)

    def test_a_sender_called_budget(self):
        link = Link(2)
        link.enter("budget", 3)
        self.assertEqual(show_link(link), "budget 2\nbudget 3")
        self.assertTrue(read_link("budget 2\nbudget 3") == link)

    def test_read_back(self):
        links = [Link(budget) for budget in (1, 2, 999, 10 ** 6)]
        for budget in (1, 7, 10 ** 6):
            for count in (1, 2, 5, 39, 40):
                links.append(link_of(budget, **dict(zip(NAMES[::-1], steps(count, budget)))))
                links.append(link_of(budget, **dict(zip(NAMES, (10 ** 12,) * count))))
        for link in links:
            link.tick(())
            link.undo()
            before = link.changes()
            with self.subTest(show_link(link)):
                found = read_link(show_link(link))
                self.assertTrue(found == link)
                self.assertIsInstance(found, Link)
                self.assertEqual(show_link(found), show_link(link))
                self.assertEqual(found.changes(), 0)
                self.assertEqual(link.changes(), before)

    def test_a_link_of_its_own(self):
        text = "budget 2\na 2\nb 3"
        one, other = read_link(text), read_link(text)
        one.deposit("a", 1)
        self.assertEqual((other.balance_of("a"), one.balance_of("a")), (2, 3))
        self.assertEqual(one.changes(), 1)

    def test_no_strings(self):
        for text in NO_STRINGS:
            with self.subTest(repr(text)):
                self.bad(read_link, text, 0)

    def test_the_row_of_the_budget(self):
        for row in (
            "", " ", "budget", "budget ", "budget  2", " budget 2", "budget 2 ", "budget 2 3", "Budget 2", "budget2",
            "budgets 2", "budge 2", "2", "2 budget", "budget 0", "budget 00", "budget 1000001", "budget 10000000",
            "budget 1000000000000", "budget a", "a 2", "budget -2", "budget +2", "budget 02", "budget 2.0", "budget\t",
        ) + tuple(f"budget {word}" for word in NO_NUMBERS):
            for rest in ("", "\na 5", "\na 0", "\n", "\nwrong"):
                with self.subTest(repr(row + rest)[:60]):
                    self.bad(read_link, row + rest, 0)

    def test_the_greatest_budget(self):
        self.assertEqual(read_link("budget 1000000").current_budget(), 10 ** 6)
        self.assertEqual(read_link("budget 1").current_budget(), 1)

    def test_wrong_numbers_of_senders(self):
        for word in NO_NUMBERS:
            with self.subTest(word[:60]):
                self.bad(read_link, f"budget 2\na {word}", 1)
                self.bad(read_link, f"budget 2\na 9\nb 9\nc {word}\nd 9", 3)
                self.bad(read_link, f"budget 2\na 0\nb 0\nc {word}\nwrong", 3)
        self.bad(read_link, "budget 2\na 9\nb 9\nc 1\n\nd 9", 4)

    def test_wrong_names(self):
        for name in NO_NAMES:
            with self.subTest(name):
                self.bad(read_link, f"budget 2\n{name} 9", 1)
                self.bad(read_link, f"budget 2\na 9\nb 9\n{name} 9\nd 9", 3)

    def test_wrong_rows(self):
        for row in (
            "", " ", "c", "c ", " c", "c  9", " c 9", "c 9 ", "c 9 9", "9 c", "9", "c9", "c, 9", "c:9", "c d 9", "c=9",
            "c 9 d 9",
        ):
            with self.subTest(row):
                self.bad(read_link, f"budget 2\na 9\nb 9\n{row}", 3)
                self.bad(read_link, f"budget 2\na 9\nb 9\n{row}\nd 9", 3)
                self.bad(read_link, f"budget 2\n{row}", 1)
                self.bad(read_link, f"budget 2\n{row}\nd 9", 1)
                self.bad(read_link, f"budget 2\na 1\n{row}\nd 9", 2)

    def test_line_feeds(self):
        self.bad(read_link, "\nbudget 2", 0)
        self.bad(read_link, "budget 2\n", 1)
        self.bad(read_link, "budget 2\na 9\n", 2)
        self.bad(read_link, "budget 2\na 9\n\n", 2)
        self.bad(read_link, "budget 2\n\na 9", 1)
        self.bad(read_link, "\n", 0)
        self.bad(read_link, "", 0)

    def test_the_order_of_the_names(self):
        for names, row in (
            ("ba", 2), ("aa", 2), ("acb", 3), ("abb", 3), ("aba", 3), ("abcc", 4), ("abdcc", 4), ("bac", 2),
            (("ab", "a"), 2), (("b", "aa"), 2), (("a", "ab", "aa"), 3), (("z", "zz", "zy"), 3),
        ):
            with self.subTest(names):
                self.bad(read_link, "\n".join(["budget 2"] + [f"{name} 99" for name in names]), row)
        self.assertEqual(read_link("budget 1\na 1\naa 1\nab 1\nb 1").names(), ("a", "aa", "ab", "b"))

    def test_how_many_senders(self):
        self.assertEqual(len(read_link(full_text(40))), 40)
        self.bad(read_link, full_text(41), 41)
        self.bad(read_link, full_text(42), 41)
        self.bad(read_link, full_text(40) + "\n", 41)
        self.bad(read_link, full_text(41, budget=10 ** 6, balance=0), 41)
        self.bad(read_link, full_text(50, balance=0), 41)

    def test_not_safe(self):
        for text, row in (
            ("budget 2\na 1", 2), ("budget 1\na 0", 2), ("budget 2\na 2\nb 2", 3), ("budget 2\na 9\nb 9\nc 1", 4),
            ("budget 2\na 0\nb 9\nc 9", 4), ("budget 2\na 2\nb 2\nc 9\nd 9\ne 9", 6), ("budget 1000000\na 999999", 2),
            ("budget 2\nbudget 1", 2), (full_text(40, budget=2, balance=2), 41), (full_text(40, balance=0), 41),
        ):
            with self.subTest(text):
                self.bad(read_link, text, row)

    def test_the_form_goes_first(self):
        self.bad(read_link, "budget 2\na 0\nb 0\nc", 3)
        self.bad(read_link, "budget 2\na 0\nb 0\nb 0\nc", 3)
        self.bad(read_link, "budget 2\nb 0\na 0", 2)
        self.bad(read_link, "budget 2\na 0\n", 2)

    def test_safe_or_not(self):
        for budget in (1, 2, 3):
            for balances in itertools.product(range(7), repeat=2):
                text = f"budget {budget}\na {balances[0]}\nb {balances[1]}"
                with self.subTest(text):
                    try:
                        right = link_of(budget, a=balances[0], b=balances[1])
                    except CreditError:
                        self.bad(read_link, text, 3)
                    else:
                        self.assertTrue(read_link(text) == right)

    def test_balances_above_the_greatest_number(self):
        link = link_of(2, a=10 ** 12, b=10 ** 12)
        link.deposit("b", 1)
        self.assertEqual(show_link(link), "budget 2\na 1000000000000\nb 1000000000001")
        self.bad(read_link, show_link(link), 2)
        link.deposit("b", 10 ** 12)
        self.assertEqual(show_link(link), "budget 2\na 1000000000000\nb 2000000000001")
        self.bad(read_link, show_link(link), 2)


class InterfaceTest(TextCase):
    def test_defined_in_the_file(self):
        for name in ("show_balances", "show_link", "read_balances", "read_link"):
            with self.subTest(name):
                self.assertEqual(getattr(module, name).__module__, "creditfloor.texts")

    def test_parameters(self):
        self.assertEqual(parameters(show_balances), ("balances",))
        self.assertEqual(parameters(show_link), ("link",))
        self.assertEqual(parameters(read_balances), ("text",))
        self.assertEqual(parameters(read_link), ("text",))

    def test_by_name(self):
        self.assertEqual(show_balances(balances=(2, 3)), "2 3")
        self.assertEqual(show_link(link=link_of(2, a=2)), "budget 2\na 2")
        self.assertEqual(read_balances(text="2 3"), (2, 3))
        self.assertTrue(read_link(text="budget 2\na 2") == link_of(2, a=2))

    def test_arguments_stay(self):
        link, odd = link_of(2, a=2, b=3), ["1", ["2"]]
        show_link(link)
        self.assertEqual(link.changes(), 2)
        self.assertTrue(link == link_of(2, a=2, b=3))
        self.assertRaises(BadText, read_balances, odd)
        self.assertRaises(BadText, read_link, odd)
        self.assertEqual(odd, ["1", ["2"]])


if __name__ == "__main__":
    unittest.main()
