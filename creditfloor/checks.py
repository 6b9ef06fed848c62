"""What the modules ask of arguments that may be anything."""


def is_between(thing, least, most):
    """Tell whether the thing is an integer from least to most."""
    # A bool is an int in Python, but never an integer in the document.
    if not isinstance(thing, int) or isinstance(thing, bool):
        return False
    return least <= thing <= most
