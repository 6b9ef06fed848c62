"""Safe balances: those in which no k senders have together less than R(k)."""

from creditfloor.checks import is_senders
from creditfloor.errors import NotSafe
from creditfloor.thresholds import threshold, thresholds


def sums(balances):
    """Return the tuple of S(1) to S(n): what the k smallest balances sum to."""
    found = []
    total = 0
    for balance in sorted(balances):
        total += balance
        found.append(total)
    return tuple(found)


def is_safe(balances, budget):
    """Tell whether the balances are safe."""
    return gap(balances, budget) is None


def gap(balances, budget):
    """Return (k, S(k), R(k)) for the least k for which S(k) is less than R(k), None if there is none."""
    needs = thresholds(len(balances), budget)
    for at, held in enumerate(sums(balances)):
        if held < needs[at]:
            return (at + 1, held, needs[at])
    return None


def weak_set(balances, budget):
    """Return the first weak set, None if the balances are safe."""
    found = gap(balances, budget)
    if found is None:
        return None
    order = poorest_first(balances, list(range(len(balances))))
    return tuple(sorted(order[:found[0]]))


def is_weak_set(balances, budget, thing):
    """Tell whether the thing is a weak set."""
    return is_senders(thing, len(balances)) and slack(balances, budget, thing) < 0


def slack(balances, budget, senders):
    """Return by how much the balances of the senders are above the threshold for their number."""
    return sum([balances[at] for at in senders]) - threshold(len(senders), budget)


def poorest_first(balances, senders):
    """Return the list of the senders in ascending order of (balance, index)."""
    return sorted(senders, key=lambda at: (balances[at], at))


def require_safe(balances, budget):
    """Raise NotSafe with the first weak set if the balances are not safe."""
    senders = weak_set(balances, budget)
    if senders is not None:
        raise NotSafe(senders)


def least_beside(others, budget):
    """Return the least balance with which one more sender is in no weak set with the other balances."""
    least = sums(others)
    held = (0, *least)
    return max([need - have for need, have in zip(thresholds(len(held), budget), held)])
