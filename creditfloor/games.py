"""Small games: how many ticks it takes to a stall if both sides play as well as possible."""

from creditfloor.checks import is_integer
from creditfloor.errors import AlreadySafe
from creditfloor.ticks import after_grant, less_demand, stalled


def ticks_to_stall(balances, budget):
    """Return the number of ticks up to the first stall, None if the grants can prevent it forever."""
    if is_short(balances, budget):
        return 1
    return solved(len(balances), budget, sum(balances))[in_order(balances)]


def in_order(balances):
    """Return the balances sorted: the number of ticks is the same in each order."""
    return tuple(sorted(balances))


def solved(count, budget, total):
    """Return the dict of the numbers of all balances that do not fall, ascending."""
    # A demand of the whole budget and the grant keep the total, so no other balances can come up.
    states = rising(count, total, 0)
    numbers = {balances: 1 if is_short(balances, budget) else None for balances in states}
    ways = {balances: futures(balances, budget) for balances in states if numbers[balances] is None}
    while True:
        still = [balances for balances in ways if numbers[balances] is None]
        later = [(balances, number_by(ways[balances], numbers)) for balances in still]
        found = [(balances, number) for balances, number in later if number is not None]
        if found == []:
            return numbers
        for balances, number in found:
            numbers[balances] = number


def rising(count, total, least):
    """Return the list of all tuples of count integers from least with this sum that do not fall, ascending."""
    if count == 0:
        return [()] if total == 0 else []
    firsts = list(range(least, total // count + 1))
    return [(first, *rest) for first in firsts for rest in rising(count - 1, total - first, first)]


def whole_demands(count, budget):
    """Return the list of all demands of the whole budget, ascending."""
    if count == 0:
        return [()] if budget == 0 else []
    return [(first, *rest) for first in range(budget + 1) for rest in whole_demands(count - 1, budget - first)]


def is_short(balances, budget):
    """Tell whether some sender stalls if it alone spends the budget."""
    return any([balance < budget for balance in balances])


def futures(balances, budget):
    """Return for each demand of the whole budget the list of the balances to which the grants lead."""
    return [grants_after(balances, demand, budget) for demand in whole_demands(len(balances), budget)]


def grants_after(balances, demand, budget):
    """Return the list of the sorted balances after this demand, one for each grant."""
    left = less_demand(balances, demand)
    return [in_order(after_grant(left, sender, budget)) for sender in range(len(left))]


def number_by(ways, numbers):
    """Return the number that follows from the numbers of the balances to which demands and grants lead."""
    answers = [[numbers[balances] for balances in grants] for grants in ways]
    forced = [max(found) for found in answers if None not in found]
    return None if forced == [] else 1 + min(forced)


def forcing_demand(balances, budget):
    """Return a demand with which some sender stalls, or after which each grant leads to a smaller number."""
    demands = whole_demands(len(balances), budget)
    stalling = [demand for demand in demands if stalled(balances, demand) != ()]
    if stalling != []:
        return stalling[0]
    numbers = solved(len(balances), budget, sum(balances))
    number = numbers[in_order(balances)]
    if number is None:
        raise AlreadySafe()
    # The number follows from the best of the demands, so it follows from one of them alone.
    followed = [number_by([grants_after(balances, demand, budget)], numbers) for demand in demands]
    return demands[followed.index(number)]


def holding_grant(balances, budget):
    """Return the first sender for which the number after the grant is greatest."""
    numbers = solved(len(balances), budget, sum(balances) + budget)
    found = [numbers[in_order(after_grant(balances, sender, budget))] for sender in range(len(balances))]
    return found.index(None if None in found else max(found))


def game_table(count, budget, total):
    """Return the table of a count, a budget and a total."""
    return tuple(solved(count, budget, total).items())


def shows_game_table(count, budget, total, thing):
    """Tell whether the thing meets the conditions that only the table meets."""
    states = rising(count, total, 0)
    if not isinstance(thing, tuple) or len(thing) != len(states):
        return False
    if not all([is_table_row(row, balances) for row, balances in zip(thing, states)]):
        return False
    numbers = {balances: number for balances, number in thing}
    return all([is_right(balances, budget, numbers) for balances in states])


def is_table_row(thing, balances):
    """Tell whether the thing is a pair of these balances and an integer from 1 or None."""
    if not isinstance(thing, tuple) or len(thing) != 2:
        return False
    held, number = thing
    # True equals 1, so the integers are looked at before they are compared.
    if not isinstance(held, tuple) or not all([is_integer(part) for part in held]) or held != balances:
        return False
    return number is None or is_integer(number) and number >= 1


def is_right(balances, budget, numbers):
    """Tell whether the number of the balances follows from those to which they lead."""
    if is_short(balances, budget):
        return numbers[balances] == 1
    return numbers[balances] == number_by(futures(balances, budget), numbers)
