"""What the modules ask of arguments that may be anything."""


def is_integer(thing):
    """Tell whether the thing is an integer."""
    # A bool is an int in Python, but never an integer in the document.
    return isinstance(thing, int) and not isinstance(thing, bool)


def is_between(thing, least, most):
    """Tell whether the thing is an integer from least to most."""
    return is_integer(thing) and least <= thing <= most


def is_senders(thing, count):
    """Tell whether the thing is an ascending tuple of at least one index of count senders."""
    if not isinstance(thing, tuple) or len(thing) == 0:
        return False
    if not all([is_between(part, 0, count - 1) for part in thing]):
        return False
    return all([low < high for low, high in zip(thing, thing[1:])])
