"""What the modules ask and make of values of any kind."""


def is_number(value, least, most):
    """Tell whether any value is a number from least to most."""
    # Python counts booleans among the integers; the document does not.
    if isinstance(value, bool) or not isinstance(value, int):
        return False
    return least <= value <= most


def copied(value):
    """Return the value, with new lists in the place of all lists in it."""
    if isinstance(value, list):
        return [copied(item) for item in value]
    if isinstance(value, tuple):
        return tuple([copied(item) for item in value])
    return value
