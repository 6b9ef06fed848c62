"""Texts: balances and links as they are written, and read back."""

from creditfloor.checks import MOST_BUDGET, MOST_CREDITS, MOST_SENDERS, is_name
from creditfloor.errors import BadText, Refused
from creditfloor.links import Link

DIGITS = "0123456789"
MOST_DIGITS = 13


def show_balances(balances):
    """Return the text of balances."""
    return " ".join([str(balance) for balance in balances])


def show_link(link):
    """Return the text of a link."""
    rows = [f"{name} {link.balance_of(name)}" for name in link.names()]
    return "\n".join([f"budget {link.current_budget()}"] + rows)


def read_balances(text):
    """Return the balances of a text."""
    found = read_numbers(text.split(" ")) if isinstance(text, str) else None
    if found is None:
        raise BadText(0)
    return found


def read_link(text):
    """Return the link of a text."""
    if not isinstance(text, str):
        raise BadText(0)
    rows = text.split("\n")
    budget = read_budget_row(rows[0])
    if budget is None:
        raise BadText(0)
    senders = read_senders(rows)
    link = Link(budget)
    try:
        # If a link with some of the senders is refused, no link with all of them is safe.
        for name, balance in senders:
            link.enter(name, balance)
    except Refused:
        raise BadText(len(rows)) from None
    return link.clone()


def read_senders(rows):
    """Return the list of the pairs of a name and a balance of the rows behind the first one."""
    found = []
    before = ""
    for at, row in enumerate(rows[1:], start=1):
        pair = read_sender_row(row)
        # The empty string comes before every name.
        if pair is None or pair[0] <= before or at > MOST_SENDERS:
            raise BadText(at)
        found.append(pair)
        before = pair[0]
    return found


def read_budget_row(row):
    """Return the budget of a row, None if the row is wrong."""
    words = row.split(" ")
    if len(words) != 2 or words[0] != "budget":
        return None
    return read_budget(words[1])


def read_sender_row(row):
    """Return the name and the balance of a row, None if the row is wrong."""
    words = row.split(" ")
    if len(words) != 2 or not is_name(words[0]):
        return None
    balance = read_amount(words[1])
    return None if balance is None else (words[0], balance)


def read_numbers(words):
    """Return the balances that the words are, None if they are none."""
    found = [read_amount(word) for word in words]
    return tuple(found) if 1 <= len(found) <= MOST_SENDERS and None not in found else None


def read_amount(word):
    """Return the amount that a word is, None if it is none."""
    return read_number(word, 0, MOST_CREDITS)


def read_budget(word):
    """Return the budget that a word is, None if it is none."""
    return read_number(word, 1, MOST_BUDGET)


def read_number(word, least, most):
    """Return the number from least to most that a word is, None if it is none."""
    if not 1 <= len(word) <= MOST_DIGITS or not all([digit in DIGITS for digit in word]):
        return None
    if word[0] == "0" and word != "0":
        return None
    number = int(word)
    return number if least <= number <= most else None
