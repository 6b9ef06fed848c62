"""Transfers: from safe balances to others with the same total, credit by credit."""

from creditfloor.checks import is_between
from creditfloor.errors import OtherTotal, TooMany
from creditfloor.safety import is_safe, require_safe

MOST_TRANSFERS = 1000


def distance(one, other):
    """Return how many transfers it takes from the first balances to the second ones."""
    return sum([abs(before - after) for before, after in zip(one, other)]) // 2


def transfers(one, other, budget):
    """Return the transfers from the first balances to the second ones, with safe balances after each."""
    require_safe(one, budget)
    require_safe(other, budget)
    if sum(one) != sum(other):
        raise OtherTotal(sum(other))
    many = distance(one, other)
    if many > MOST_TRANSFERS:
        raise TooMany(MOST_TRANSFERS)
    held = one
    found = []
    for at in range(many):
        pair = next_transfer(held, other)
        held = after_transfer(held, pair)
        found.append(pair)
    return tuple(found)


def next_transfer(held, other):
    """Return a transfer towards the other balances that leaves safe ones."""
    senders = list(range(len(held)))
    givers = [at for at in senders if held[at] > other[at]]
    takers = [at for at in senders if held[at] < other[at]]
    # Whichever sender gives, some taker leaves safe balances. Otherwise, for each taker, the giver would be
    # in a set without this taker that has nothing to spare. What these sets have in common has nothing to
    # spare either, as the steps never fall; without any taker it would be a weak set of the other balances.
    # If some taker leaves safe balances, the poorest does: so each sum of the k smallest is greatest.
    poorest = min(takers, key=lambda at: held[at])
    return (givers[0], poorest)


def after_transfer(balances, pair):
    """Return the balances after a transfer."""
    giver, taker = pair
    found = list(balances)
    found[giver] -= 1
    found[taker] += 1
    return tuple(found)


def shows_transfers(one, other, budget, thing):
    """Tell whether the thing is a tuple of transfers from one to other, with safe balances all the time."""
    if not isinstance(thing, tuple) or not all([is_transfer(part, len(one)) for part in thing]):
        return False
    held = one
    if not is_safe(held, budget):
        return False
    for pair in thing:
        held = after_transfer(held, pair)
        if not is_safe(held, budget):
            return False
    return held == other


def is_transfer(thing, count):
    """Tell whether the thing is a pair of two different indexes of count senders."""
    if not isinstance(thing, tuple) or len(thing) != 2:
        return False
    return all([is_between(part, 0, count - 1) for part in thing]) and thing[0] != thing[1]
