"""Prices: the cheapest safe balances above given ones, and lower bounds of their cost."""

from creditfloor.checks import is_integer, is_senders
from creditfloor.safety import least_beside, poorest_first, slack, sums
from creditfloor.thresholds import thresholds


def raised(balances, prices, budget):
    """Return the cheapest safe balances, none less than before."""
    found = list(balances)
    taken = []
    for sender in dearest_first(prices):
        found[sender] = max(balances[sender], least_beside(taken, budget))
        taken.append(found[sender])
    return tuple(found)


def dearest_first(prices):
    """Return the list of the senders in descending order of price, then in ascending order."""
    return sorted(range(len(prices)), key=lambda at: (-prices[at], at))


def raise_cost(balances, prices, other):
    """Return the sum of price * (other - balance)."""
    return sum([price * (after - before) for before, price, after in zip(balances, prices, other)])


def lower_bound(balances, prices, budget):
    """Return a lower bound of the cost of raised."""
    order = dearest_first(prices)
    # The senders taken so far need what their weakest set lacks, at least at the price of the last one.
    groups = [weakest_set(balances, budget, order[:at + 1]) for at in range(len(order))]
    return rows_of_falls(prices, groups)


def rows_of_falls(prices, groups):
    """Return the rows of the groups, one group for each of the senders in descending order of price."""
    ordered = [prices[sender] for sender in dearest_first(prices)]
    rows = {}
    for senders, price, following in zip(groups, ordered, ordered[1:] + [0]):
        # A row counts only the fall to the next price: what a sender is counted from its own group on
        # sums to its price.
        if price > following and senders != ():
            rows[senders] = rows.get(senders, 0) + price - following
    return tuple([(multiplier, senders) for senders, multiplier in rows.items()])


def weakest_set(balances, budget, among):
    """Return the weak set among these senders that lacks most, () if there is none."""
    order = poorest_first(balances, among)
    held = sums([balances[at] for at in among])
    lacks = [need - have for need, have in zip(thresholds(len(held), budget), held)]
    most = max(lacks)
    if most <= 0:
        return ()
    return tuple(sorted(order[:lacks.index(most) + 1]))


def shows_lower_bound(balances, prices, budget, amount, thing):
    """Tell whether the amount is an integer and the thing a lower bound of it."""
    if not is_integer(amount) or not is_rows(thing, len(balances)):
        return False
    if any([load > price for load, price in zip(loads(thing, len(balances)), prices)]):
        return False
    return amount == sum([-multiplier * slack(balances, budget, senders) for multiplier, senders in thing])


def is_rows(thing, count):
    """Tell whether the thing is a tuple of rows (multiplier, senders), with different senders in each."""
    if not isinstance(thing, tuple) or not all([is_row(row, count) for row in thing]):
        return False
    groups = [senders for multiplier, senders in thing]
    return len(set(groups)) == len(groups)


def is_row(thing, count):
    """Tell whether the thing is a pair of an integer from 1 and senders."""
    if not isinstance(thing, tuple) or len(thing) != 2:
        return False
    multiplier, senders = thing
    return is_integer(multiplier) and multiplier >= 1 and is_senders(senders, count)


def loads(rows, count):
    """Return for each of count senders the sum of the multipliers of the rows with this sender."""
    found = [0 for at in range(count)]
    for multiplier, senders in rows:
        for at in senders:
            found[at] += multiplier
    return found
