"""Grants: which sender the receiver gives the budget to."""

from creditfloor.safety import is_safe
from creditfloor.ticks import after_grant, less_demand, stalled


def best_grant(balances):
    """Return the sender with the smallest balance, the first one of several."""
    return balances.index(min(balances))


def good_grants(balances, budget):
    """Return the ascending tuple of the senders the grant to which leaves safe balances."""
    senders = list(range(len(balances)))
    return tuple([sender for sender in senders if is_safe(after_grant(balances, sender, budget), budget)])


def served(balances, budget, demands):
    """Return the granted senders and the balances after a tick for each demand up to the first stall."""
    grants = []
    held = balances
    for demand in demands:
        if stalled(held, demand) != ():
            break
        left = less_demand(held, demand)
        sender = best_grant(left)
        held = after_grant(left, sender, budget)
        grants.append(sender)
    return (tuple(grants), held)
