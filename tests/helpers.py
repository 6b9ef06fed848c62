"""What several test files need: odd things, and the game of [3] played out by its definition."""

import functools
import itertools

from creditfloor.links import Link
from creditfloor.thresholds import steps, threshold


def nested(depth):
    thing = (1,)
    for _ in range(depth - 1):
        thing = (thing,)
    return thing


class Odd:
    """Neither a tuple nor an integer, though it equals everything."""

    def __eq__(self, other):
        return True

    def __len__(self):
        return 2


# None of these is balances, a demand, a sender, a tuple of senders, an amount or rows (except the last, as rows).
ODD_THINGS = (
    None, True, False, "", "a", "1 2", "a\nb", b"", b"12", [], [1, 1], [1, [1]], {}, {0: 1, 1: 1}, {1, 2},
    frozenset((1, 2)), range(2), object(), Odd(), len, int, ValueError("x"), nested(2), nested(30), ("1", "1"),
    (None, None), (1, None), ((1,), (1,)), ([1], 1), (True, 1), (1, False), (b"1", 1), ({}, {}), (Odd(), 1), (),
)


# The names of as many senders as a link can have, ascending.
NAMES = tuple(first + second for first in "abcd" for second in "abcdefghij")


def link_of(link_budget, **balances):
    """A link with this budget and these balances."""
    link = Link(link_budget)
    for name, balance in balances.items():
        link.enter(name, balance)
    return link


def tuples(count, most):
    """All tuples of count integers from 0 to most."""
    return list(itertools.product(range(most + 1), repeat=count))


def small_cases(sizes):
    """Small balances with their budgets, safe ones and others, for pairs of a number of senders and a budget."""
    return [
        (balances, budget)
        for count, budget in sizes
        for balances in tuples(count, steps(count, budget)[-1] + 1)
    ]


@functools.lru_cache(maxsize=None)
def splits(count, total):
    """All tuples of count integers from 0 with this sum."""
    if count == 0:
        return ((),) if total == 0 else ()
    return tuple((first, *rest) for first in range(total + 1) for rest in splits(count - 1, total - first))


@functools.lru_cache(maxsize=None)
def demands_of(count, budget):
    """All demands of count senders, those of less than the budget too."""
    return tuple(demand for total in range(budget + 1) for demand in splits(count, total))


def granted(balances, sender, budget):
    return tuple(balance + budget if at == sender else balance for at, balance in enumerate(balances))


def minus(balances, demand):
    return tuple(balance - spent for balance, spent in zip(balances, demand))


def grants_after(balances, demand, budget):
    """The balances after this demand, for each of the grants."""
    left = minus(balances, demand)
    return [granted(left, sender, budget) for sender in range(len(left))]


def greatest_kept(states, demands, budget, most):
    """The states in which the receiver can stay forever, with balances above most lowered to it."""
    kept = {state for state in states if min(state) >= budget}
    while True:
        still = {state for state in kept if all(
            any(tuple(min(part, most) for part in after) in kept for after in grants_after(state, demand, budget))
            for demand in demands
        )}
        if still == kept:
            return kept
        kept = still


@functools.lru_cache(maxsize=None)
def kept_with_whole_demands(count, budget, total):
    """The balances with this total with which no sender ever stalls if each demand is of the whole budget.

    The total stays the same, so the game is finite. Other balances with this total are not safe:
    the opponent has even more demands than these.
    """
    return greatest_kept(splits(count, total), splits(count, budget), budget, total)


@functools.lru_cache(maxsize=None)
def kept_with_all_demands(count, budget, most):
    """The balances up to most with which no sender ever stalls if the receiver loses what is above most.

    All demands are looked at. These balances are safe: to lose less is no worse for the receiver.
    """
    return greatest_kept(tuples(count, most), demands_of(count, budget), budget, most)


def with_part(balances, at, part):
    """The balances with this one in the place of that of sender at."""
    return balances[:at] + (part,) + balances[at + 1:]


def first_weak_set(balances, budget):
    """The first weak set by its definition, None if there is none."""
    order = sorted(range(len(balances)), key=lambda at: (balances[at], at))
    for size in range(1, len(order) + 1):
        if sum(balances[at] for at in order[:size]) < threshold(size, budget):
            return tuple(sorted(order[:size]))
    return None


def dearest_first(prices):
    """The senders in descending order of price, then in ascending order."""
    return sorted(range(len(prices)), key=lambda at: (-prices[at], at))


def subsets(senders):
    """All nonempty sets of these senders, each as an ascending tuple."""
    return [
        chosen for size in range(1, len(senders) + 1) for chosen in itertools.combinations(sorted(senders), size)
    ]


def lcg(seed):
    """Numbers that look random and are the same in each run."""
    state = seed
    while True:
        state = (state * 6364136223846793005 + 1442695040888963407) % 2 ** 64
        yield state >> 33


def is_plain(value):
    """Whether a value consists of integers, strings, tuples, booleans and None alone, and of no subclass."""
    if type(value) is tuple:
        return all(is_plain(part) for part in value)
    return value is None or type(value) in (int, str, bool)


def parameters(function):
    """The names of the parameters of a function, in their order."""
    return function.__code__.co_varnames[:function.__code__.co_argcount]
