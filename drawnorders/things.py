"""What a thing that is passed is: True and False are no integers."""


def is_number(thing):
    """True if a thing is an integer."""
    return isinstance(thing, int) and not isinstance(thing, bool)


def is_element(thing, size):
    """True if a thing is an element of the orders of a size."""
    return is_number(thing) and 0 <= thing < size


def is_tuple(thing, many):
    """True if a thing is a tuple of so many items."""
    return isinstance(thing, tuple) and len(thing) == many
