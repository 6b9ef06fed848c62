"""Spares: what safe balances can lose, what a new sender needs, and the greatest budget."""

from creditfloor.safety import is_safe, least_beside, require_safe
from creditfloor.thresholds import threshold
from creditfloor.ticks import require_sender


def spare(balances, budget, sender):
    """Return the greatest amount by which this balance alone can be lowered."""
    require_safe(balances, budget)
    require_sender(balances, sender)
    return spare_at(balances, budget, sender)


def spare_at(balances, budget, sender):
    """Return the spare of a sender of safe balances."""
    return balances[sender] - least_beside(balances[:sender] + balances[sender + 1:], budget)


def spares(balances, budget):
    """Return the tuple of the spares of all senders."""
    require_safe(balances, budget)
    return tuple([spare_at(balances, budget, sender) for sender in range(len(balances))])


def total_spare(balances, budget):
    """Return the greatest total amount that can be withdrawn from all senders."""
    require_safe(balances, budget)
    # When no sender can lose more, each is in a set with nothing to spare. As the steps never fall, all these
    # sets together have nothing to spare either.
    return sum(balances) - threshold(len(balances), budget)


def entry(balances, budget):
    """Return the least balance with which one more sender can be added."""
    require_safe(balances, budget)
    return least_beside(balances, budget)


def greatest_budget(balances):
    """Return the greatest budget for which the balances are safe, 0 if there is none."""
    # The thresholds grow with the budget, and R(1) is the budget itself.
    low = 0
    high = min(balances)
    while low < high:
        middle = (low + high + 1) // 2
        if is_safe(balances, middle):
            low = middle
        else:
            high = middle - 1
    return low
