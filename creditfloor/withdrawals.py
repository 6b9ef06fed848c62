"""Withdrawals: the credits of most value that safe balances can lose, and upper bounds of this value."""

from creditfloor.checks import is_integer
from creditfloor.prices import dearest_first, is_rows, loads, rows_of_falls
from creditfloor.safety import least_beside, poorest_first, require_safe, slack


def withdrawn(balances, values, budget):
    """Return the safe balances that are left by a withdrawal of the greatest value."""
    require_safe(balances, budget)
    found = list(balances)
    for sender in dearest_first(values):
        found[sender] = least_beside(found[:sender] + found[sender + 1:], budget)
    return tuple(found)


def withdrawal_value(balances, values, other):
    """Return the sum of value * (balance - other)."""
    return sum([value * (before - after) for before, value, after in zip(balances, values, other)])


def upper_bound(balances, values, budget):
    """Return an upper bound of the value of withdrawn."""
    require_safe(balances, budget)
    order = dearest_first(values)
    # The senders taken so far lose together at most what a set with all of them can lose.
    groups = [tightest_set(balances, budget, order[:at + 1]) for at in range(len(order))]
    return rows_of_falls(values, groups)


def tightest_set(balances, budget, taken):
    """Return the set with all of the taken senders that has the least slack."""
    others = [at for at in range(len(balances)) if at not in taken]
    rest = poorest_first(balances, others)
    choices = [tuple(sorted(taken + rest[:more])) for more in range(len(rest) + 1)]
    return min(choices, key=lambda senders: slack(balances, budget, senders))


def shows_upper_bound(balances, values, budget, amount, thing):
    """Tell whether the amount is an integer and the thing an upper bound of it."""
    if not is_integer(amount) or not is_rows(thing, len(balances)):
        return False
    if any([load < value for load, value in zip(loads(thing, len(balances)), values)]):
        return False
    return amount == sum([multiplier * slack(balances, budget, senders) for multiplier, senders in thing])
