"""Attacks: demands with which an opponent forces a stall if the balances are not safe."""

from creditfloor.errors import AlreadySafe
from creditfloor.safety import gap, weak_set
from creditfloor.thresholds import thresholds
from creditfloor.ticks import after_grant, is_demand, less_demand, stalled


def progress(balances, budget):
    """Return (k, S(k), D) of balances that are not safe, None for safe ones."""
    found = gap(balances, budget)
    if found is None:
        return None
    size, held = found[0], found[1]
    level = level_after(held, size, budget)
    lacks = [level - balance for balance in sorted(balances)[:size] if balance < level]
    return (size, held, sum(lacks))


def level_after(held, size, budget):
    """Return what each of size senders with the sum held keeps if they spend the budget evenly."""
    return (held - budget) // size


def attack(balances, budget):
    """Return a demand that brings a stall nearer, whatever is granted."""
    senders = weak_set(balances, budget)
    if senders is None:
        raise AlreadySafe()
    level = level_after(sum([balances[at] for at in senders]), len(senders), budget)
    # Only what lies above the level is spent, and all of it together is at least the budget.
    # If the grant goes to a sender that keeps the level, the others are a smaller weak set;
    # if it goes to one below the level, D falls; if it goes to no sender of the set, S(k) falls.
    # A single weak sender has a level below 0: it spends the whole budget and stalls.
    demand = [0 for balance in balances]
    left = budget
    for at in senders:
        demand[at] = min(left, max(0, balances[at] - level))
        left -= demand[at]
    return tuple(demand)


def shows_attack(balances, budget, thing):
    """Tell whether the thing is a demand with a stall, or one after which every grant leaves less progress."""
    if not is_demand(thing, len(balances), budget):
        return False
    if stalled(balances, thing) != ():
        return True
    before = progress(balances, budget)
    if before is None:
        return False
    left = less_demand(balances, thing)
    return all([is_below(after_grant(left, sender, budget), budget, before) for sender in range(len(left))])


def is_below(balances, budget, before):
    """Tell whether the balances are not safe and their progress is less than before."""
    now = progress(balances, budget)
    return now is not None and now < before


def attack_limit(size, budget):
    """Return in how many ticks at most the attack leads to a stall, size being the k of gap."""
    found = thresholds(size, budget)
    return 1 + sum([found[at] // budget + found[at - 1] for at in range(1, size)])
