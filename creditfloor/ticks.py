"""Balances, demands, and what a tick makes of them."""

from creditfloor.checks import MOST_SENDERS, is_amount, is_between
from creditfloor.errors import BadDemand, NoSender, Stall


def is_balances(thing):
    """Tell whether the thing is balances."""
    if not isinstance(thing, tuple) or not 1 <= len(thing) <= MOST_SENDERS:
        return False
    return all([is_amount(part) for part in thing])


def is_demand(thing, count, budget):
    """Tell whether the thing is a demand of count senders."""
    if not isinstance(thing, tuple) or len(thing) != count:
        return False
    return all([is_between(part, 0, budget) for part in thing]) and sum(thing) <= budget


def stalled(balances, demand):
    """Return the ascending tuple of the senders that stall."""
    return tuple([at for at, balance in enumerate(balances) if demand[at] > balance])


def after_demand(balances, demand, budget):
    """Return the balances after a demand."""
    if not is_demand(demand, len(balances), budget):
        raise BadDemand(demand)
    senders = stalled(balances, demand)
    if senders != ():
        raise Stall(senders)
    return less_demand(balances, demand)


def less_demand(balances, demand):
    """Return the balances less a demand with which no sender stalls."""
    return tuple([balance - spent for balance, spent in zip(balances, demand)])


def after_grant(balances, sender, budget):
    """Return the balances after a grant of the budget to the sender."""
    require_sender(balances, sender)
    return tuple([balance + budget if at == sender else balance for at, balance in enumerate(balances)])


def after_tick(balances, demand, sender, budget):
    """Return the balances after a demand and a grant."""
    if not is_demand(demand, len(balances), budget):
        raise BadDemand(demand)
    # A wrong sender is named before a stall, so it is looked for before the demand is made.
    require_sender(balances, sender)
    return after_grant(after_demand(balances, demand, budget), sender, budget)


def require_sender(balances, sender):
    """Raise NoSender if the sender is not an index of the balances."""
    if not is_between(sender, 0, len(balances) - 1):
        raise NoSender(sender)
