"""The errors of the program.

No message shows a number that a caller passed: Python refuses to write out
integers of very many digits, and numbers may be of any size here.
"""


class OrderError(ValueError):
    """The base class of all errors of the program."""


class BadSize(OrderError):
    """A size below 0 or above 40."""

    def __init__(self, wanted):
        OrderError.__init__(self, "an order has from 0 to 40 elements")
        self.wanted = wanted


class BadPair(OrderError):
    """A pair with an integer that is no element."""

    def __init__(self, index):
        OrderError.__init__(self, "a pair has an integer that is no element")
        self.index = index


class Ring(OrderError):
    """Pairs with a ring, by which elements would be below themselves."""

    def __init__(self, ring):
        OrderError.__init__(self, "the pairs have a ring")
        self.ring = list(ring)


class BadText(OrderError):
    """A line that has no place in the text of an order."""

    def __init__(self, line):
        OrderError.__init__(self, "a line has no place in the text of an order")
        self.line = line


class BadDrawing(OrderError):
    """A thing that is no drawing of its kind."""


class BadLots(OrderError):
    """Sets that are not the lots of an order."""


class NoRow(OrderError):
    """A number that no row has."""


class Missing(OrderError):
    """A pair or an element that is not there."""
