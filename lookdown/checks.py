"""What the modules ask of any object before they look into it."""


def is_integer(thing):
    """Whether a thing is an int that is no flag."""
    return isinstance(thing, int) and not isinstance(thing, bool)


def is_between(low, high, thing):
    """Whether a thing is an integer from low to high."""
    return is_integer(thing) and low <= thing <= high


def is_tuple_of(low, high, thing):
    """Whether a thing is a tuple of low to high items."""
    return isinstance(thing, tuple) and low <= len(thing) <= high
