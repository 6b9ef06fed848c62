"""Links: senders with names, whose balances stay safe under all changes."""

from creditfloor.checks import MOST_SENDERS, is_amount, is_budget, is_integer, is_name
from creditfloor.errors import BadAmount, BadBudget, BadName, BadSpends, FullLink, NothingToUndo, OverBudget
from creditfloor.errors import Refused, TakenName, UnknownName
from creditfloor.safety import least_beside, weak_set


class Link:
    """A budget, and senders with names and safe balances."""

    def __init__(self, budget):
        require_budget(budget)
        self.budget = budget
        # A dict that is stored here is never changed, only replaced: so the past can hold it as it is.
        self.balances = {}
        self.past = []

    def __eq__(self, other):
        return isinstance(other, Link) and self.budget == other.budget and self.balances == other.balances

    def __len__(self):
        return len(self.balances)

    def enter(self, name, balance):
        """Add a sender."""
        if not is_name(name):
            raise BadName(name)
        if name in self.balances:
            raise TakenName(name)
        require_amount(balance)
        if len(self.balances) >= MOST_SENDERS:
            raise FullLink()
        self.change(self.budget, {**self.balances, name: balance})

    def leave(self, name):
        """Remove a sender and return its balance."""
        self.require_known(name)
        left = self.balances[name]
        # A weak set of the other senders would have been one before.
        self.keep(self.budget, {other: self.balances[other] for other in self.balances if other != name})
        return left

    def names(self):
        """Return the names, ascending."""
        return tuple(sorted(self.balances))

    def balance_of(self, name):
        """Return the balance of a sender."""
        self.require_known(name)
        return self.balances[name]

    def total(self):
        """Return the sum of the balances."""
        return sum([self.balances[name] for name in self.balances])

    def current_budget(self):
        """Return the budget."""
        return self.budget

    def deposit(self, name, amount):
        """Add credits to a balance."""
        self.require_known(name)
        require_amount(amount)
        # More credits make no set weak.
        self.keep(self.budget, {**self.balances, name: self.balances[name] + amount})

    def withdraw(self, name, amount):
        """Take credits from a balance."""
        self.require_known(name)
        require_amount(amount)
        self.change(self.budget, {**self.balances, name: self.balances[name] - amount})

    def transfer(self, giver, taker, amount):
        """Move credits from one sender to another."""
        self.require_known(giver)
        self.require_known(taker)
        require_amount(amount)
        after = dict(self.balances)
        after[giver] -= amount
        after[taker] += amount
        self.change(self.budget, after)

    def set_budget(self, budget):
        """Change the budget."""
        require_budget(budget)
        self.change(budget, self.balances)

    def spare_of(self, name):
        """Return the greatest amount by which this balance alone can be lowered."""
        self.require_known(name)
        others = [self.balances[other] for other in self.balances if other != name]
        return self.balances[name] - least_beside(others, self.budget)

    def tick(self, spends):
        """Do a tick, and return the name of the sender that is granted the budget, None without senders."""
        if not is_spends(spends):
            raise BadSpends(spends)
        for name, amount in spends:
            self.require_known(name)
        spent = sum([amount for name, amount in spends])
        if spent > self.budget:
            raise OverBudget(spent)
        after = dict(self.balances)
        for name, amount in spends:
            after[name] -= amount
        granted = poorest_name(after)
        if granted is not None:
            after[granted] += self.budget
        # The grant to a smallest balance leaves safe balances.
        self.keep(self.budget, after)
        return granted

    def undo(self):
        """Take back the last change that was not taken back."""
        if len(self.past) == 0:
            raise NothingToUndo()
        self.budget, self.balances = self.past.pop()

    def changes(self):
        """Return how many changes can be taken back."""
        return len(self.past)

    def clone(self):
        """Return a separate link with the same budget, senders and balances and no changes."""
        twin = Link(self.budget)
        twin.balances = dict(self.balances)
        return twin

    def require_known(self, name):
        """Raise UnknownName if there is no sender of this name."""
        if not is_name(name) or name not in self.balances:
            raise UnknownName(name)

    def change(self, budget, balances):
        """Take this budget and these balances, or raise Refused if they are not safe."""
        names = weak_names(budget, balances)
        if names is not None:
            raise Refused(names)
        self.keep(budget, balances)

    def keep(self, budget, balances):
        """Take this budget and these balances as a change."""
        self.past.append((self.budget, self.balances))
        self.budget = budget
        self.balances = balances


def require_amount(amount):
    """Raise BadAmount if the amount is none."""
    if not is_amount(amount):
        raise BadAmount(amount)


def require_budget(budget):
    """Raise BadBudget if the budget is none."""
    if not is_budget(budget):
        raise BadBudget(budget)


def weak_names(budget, balances):
    """Return the first weak set by (balance, name), None if the balances are safe."""
    # The indexes of ascending names are in the order of the names, so (balance, index) is as (balance, name).
    names = sorted(balances)
    senders = weak_set(tuple([balances[name] for name in names]), budget)
    return None if senders is None else tuple([names[at] for at in senders])


def poorest_name(balances):
    """Return the name of the sender with the least (balance, name), None without senders."""
    if len(balances) == 0:
        return None
    return min(sorted(balances), key=lambda name: balances[name])


def is_spends(thing):
    """Tell whether the thing is a tuple of pairs of a name and an integer from 0, ascending by name."""
    if not isinstance(thing, tuple) or not all([is_spend(part) for part in thing]):
        return False
    names = [name for name, amount in thing]
    return all([low < high for low, high in zip(names, names[1:])])


def is_spend(thing):
    """Tell whether the thing is a pair of a name and an integer from 0."""
    if not isinstance(thing, tuple) or len(thing) != 2:
        return False
    name, amount = thing
    return is_name(name) and is_integer(amount) and amount >= 0
