"""A shell: a link that is asked and changed by command lines."""

from creditfloor.attacks import attack
from creditfloor.checks import is_name
from creditfloor.errors import BadCommand
from creditfloor.links import Link, is_spends
from creditfloor.safety import is_safe, weak_set
from creditfloor.texts import read_amount, read_budget, read_numbers, show_balances, show_link


def do_enter(link, name, balance):
    link.enter(name, balance)
    return "done"


def do_deposit(link, name, amount):
    link.deposit(name, amount)
    return "done"


def do_withdraw(link, name, amount):
    link.withdraw(name, amount)
    return "done"


def do_transfer(link, giver, taker, amount):
    link.transfer(giver, taker, amount)
    return "done"


def do_budget(link, budget):
    link.set_budget(budget)
    return "done"


def do_undo(link):
    link.undo()
    return "done"


def do_leave(link, name):
    return str(link.leave(name))


def tell_balance(link, name):
    return str(link.balance_of(name))


def tell_spare(link, name):
    return str(link.spare_of(name))


def tell_total(link):
    return str(link.total())


def do_tick(link, spends):
    granted = link.tick(spends)
    return "-" if granted is None else granted


def tell_list(link):
    return show_link(link).replace("\n", " / ")


def tell_safe(link, budget, balances):
    senders = weak_set(balances, budget)
    return "yes" if senders is None else "no " + show_balances(senders)


def tell_attack(link, budget, balances):
    return "-" if is_safe(balances, budget) else show_balances(attack(balances, budget))


ACTIONS = {
    "enter": do_enter,
    "deposit": do_deposit,
    "withdraw": do_withdraw,
    "transfer": do_transfer,
    "budget": do_budget,
    "undo": do_undo,
    "leave": do_leave,
    "balance": tell_balance,
    "spare": tell_spare,
    "total": tell_total,
    "tick": do_tick,
    "list": tell_list,
    "safe": tell_safe,
    "attack": tell_attack,
}

# The words behind the command, for those commands that have a fixed number of them.
FORMS = {
    "enter": ("name", "amount"),
    "deposit": ("name", "amount"),
    "withdraw": ("name", "amount"),
    "transfer": ("name", "name", "amount"),
    "budget": ("budget",),
    "undo": (),
    "leave": ("name",),
    "balance": ("name",),
    "spare": ("name",),
    "total": (),
    "list": (),
}


class Shell:
    """A link, and the commands that it is given line by line."""

    def __init__(self, budget):
        self.link = Link(budget)

    def run(self, line):
        """Do one command and return its answer."""
        words = line.split(" ") if isinstance(line, str) else [""]
        told = read_told(words[0], words[1:])
        if told is None:
            raise BadCommand(line)
        action = ACTIONS[words[0]]
        return action(self.link, *told)


def read_told(command, words):
    """Return the list of what the words behind a command tell it, None if the line is no command."""
    if command == "tick":
        return read_spends(words)
    if command in ("safe", "attack"):
        return read_question(words)
    if command not in FORMS or len(words) != len(FORMS[command]):
        return None
    found = [read_word(kind, word) for kind, word in zip(FORMS[command], words)]
    return None if None in found else found


def read_word(kind, word):
    """Return what a word of this kind tells, None if it is not of this kind."""
    if kind == "name":
        return word if is_name(word) else None
    return read_budget(word) if kind == "budget" else read_amount(word)


def read_spends(words):
    """Return the list of the spends that the words are, None if they are none."""
    pairs = [(name, read_amount(word)) for name, word in zip(words[::2], words[1::2])]
    spends = tuple(pairs)
    return [spends] if len(words) == 2 * len(spends) and is_spends(spends) else None


def read_question(words):
    """Return the list of a budget and balances that the words are, None if they are none."""
    budget = read_budget(words[0]) if len(words) > 0 else None
    balances = read_numbers(words[1:])
    return None if budget is None or balances is None else [budget, balances]
