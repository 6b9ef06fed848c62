"""What the modules ask of arguments that may be anything."""

MOST_SENDERS = 40
MOST_CREDITS = 10 ** 12
MOST_BUDGET = 10 ** 6
MOST_LETTERS = 8
LETTERS = "abcdefghijklmnopqrstuvwxyz"


def is_integer(thing):
    """Tell whether the thing is an integer."""
    # A bool is an int in Python, but never an integer in the document.
    return isinstance(thing, int) and not isinstance(thing, bool)


def is_between(thing, least, most):
    """Tell whether the thing is an integer from least to most."""
    return is_integer(thing) and least <= thing <= most


def is_amount(thing):
    """Tell whether the thing is an amount of credits, or a balance that is passed in."""
    return is_between(thing, 0, MOST_CREDITS)


def is_budget(thing):
    """Tell whether the thing is a budget."""
    return is_between(thing, 1, MOST_BUDGET)


def is_name(thing):
    """Tell whether the thing is the name of a sender."""
    if not isinstance(thing, str) or not 1 <= len(thing) <= MOST_LETTERS:
        return False
    return all([letter in LETTERS for letter in thing])


def is_senders(thing, count):
    """Tell whether the thing is an ascending tuple of at least one index of count senders."""
    if not isinstance(thing, tuple) or len(thing) == 0:
        return False
    if not all([is_between(part, 0, count - 1) for part in thing]):
        return False
    return all([low < high for low, high in zip(thing, thing[1:])])
