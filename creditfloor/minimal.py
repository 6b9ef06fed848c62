"""Minimal balances: safe ones of which none can be lowered."""

from creditfloor.checks import is_between
from creditfloor.errors import BadNumber, NotMinimal
from creditfloor.safety import is_safe
from creditfloor.thresholds import threshold, thresholds


def is_minimal(balances, budget):
    """Tell whether the balances are safe and minimal."""
    return sum(balances) == threshold(len(balances), budget) and is_safe(balances, budget)


def count_minimal(count, budget):
    """Return how many minimal balances of count senders there are."""
    return len(all_minimal(count, budget))


def minimal_at(count, budget, number):
    """Return the minimal balances with this number."""
    found = all_minimal(count, budget)
    if not is_between(number, 0, len(found) - 1):
        raise BadNumber(number)
    return found[number]


def number_of(balances, budget):
    """Return the number of minimal balances."""
    if not is_minimal(balances, budget):
        raise NotMinimal(balances)
    return all_minimal(len(balances), budget).index(balances)


def all_minimal(count, budget):
    """Return the list of all minimal balances of count senders, ascending."""
    needs = thresholds(count, budget)
    before = (0, *needs)
    found = [()]
    for size in range(1, count + 1):
        # The other senders need the rest of the total R(count), so these can have at most so much together.
        most = needs[-1] - before[count - size]
        longer = [(*held, more) for held in found for more in range(budget, most - sum(held) + 1)]
        found = [held for held in longer if is_safe(held, budget)]
    return found
