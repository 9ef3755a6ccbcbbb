"""An order under changes."""

from drawnorders.errors import BadSize, Missing
from drawnorders.kinds import draw, kinds_of
from drawnorders.order import MOST, Order
from drawnorders.shape import shape
from drawnorders.width import width


def lowered(number, gone):
    """The number of an element after another one is gone."""
    return number - 1 if number > gone else number


class Book:
    """A number of elements, and the pairs that stand, in the order in which they were put."""

    def __init__(self):
        self._size = 0
        self._pairs = []

    @property
    def size(self):
        """The number of elements."""
        return self._size

    def grow(self):
        """Add an element that is apart from all others, and return its number."""
        if self._size == MOST:
            raise BadSize(MOST + 1)
        self._size += 1
        return self._size - 1

    def put(self, low, high):
        """Put a pair; raises BadPair if one of the two is no element, and Ring if it makes a ring."""
        if (low, high) not in self._pairs:
            pairs = self._pairs + [(low, high)]
            # The order is made only for its errors: all pairs that stand are right without this one.
            Order(self._size, pairs)
            self._pairs = pairs

    def take(self, low, high):
        """Remove a pair; raises Missing if it does not stand."""
        if (low, high) not in self._pairs:
            raise Missing("the pair does not stand")
        self._pairs = [pair for pair in self._pairs if pair != (low, high)]

    def drop(self, element):
        """Remove an element and its pairs; greater ones are numbered down. Raises Missing if it is no element."""
        if element < 0 or element >= self._size:
            raise Missing("the integer is no element")
        left = [pair for pair in self._pairs if element not in pair]
        self._pairs = [(lowered(low, element), lowered(high, element)) for low, high in left]
        self._size -= 1

    def put_pairs(self):
        """The pairs that stand, in the order in which they were put."""
        return list(self._pairs)

    def order(self):
        """The order of the elements and of the pairs that stand."""
        return Order(self._size, self._pairs)

    def answer(self, kind):
        """True and a drawing of the order, or False and a paper against the kind."""
        return draw(self.order(), kind)

    def kinds(self):
        """The kinds of which the order has a drawing."""
        return kinds_of(self.order())

    def width(self):
        """The width of the order."""
        return width(self.order())

    def shape(self):
        """The shape of the order."""
        return shape(self.order())
