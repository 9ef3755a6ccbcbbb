"""Finite orders: which elements are below which others."""

from drawnorders.errors import BadPair, BadSize, Ring

MOST = 40


def check_size(size):
    """Raise BadSize if no order has this size."""
    if size < 0 or size > MOST:
        raise BadSize(size)


def check_pairs(size, pairs):
    """Raise BadPair if a pair has an integer that is no element."""
    for at, (low, high) in enumerate(pairs):
        if low < 0 or low >= size or high < 0 or high >= size:
            raise BadPair(at)


def masks_of(size, pairs):
    """For each element an integer whose bits tell with which elements its pairs end."""
    masks = [0] * size
    for low, high in pairs:
        masks[low] |= 1 << high
    return masks


def ones(mask):
    """The indexes of the bits of a mask that are 1, in ascending order."""
    return [at for at in range(mask.bit_length()) if mask >> at & 1]


def closure(masks):
    """For each element the mask of all elements to which a chain of pairs leads from it."""
    size = len(masks)
    reached = list(masks)
    # After each turn, all chains whose inner elements had their turn are counted.
    for middle in range(size):
        for low in range(size):
            if reached[low] >> middle & 1:
                reached[low] = reached[low] | reached[middle]
    return reached


def ring_among(masks, ringed):
    """A ring of the pairs, from the elements that stand in rings."""
    # Each of these has a pair that ends with another one or itself, so the walk comes back.
    walk = [ringed[0]]
    while True:
        last = walk[-1]
        ahead = [element for element in ringed if masks[last] >> element & 1][0]
        if ahead in walk:
            return walk[walk.index(ahead):]
        walk.append(ahead)


def masks_above(size, pairs):
    """For each element the mask of the elements above it; raises Ring if the pairs have a ring."""
    masks = masks_of(size, pairs)
    over = closure(masks)
    ringed = [element for element in range(size) if over[element] >> element & 1]
    if ringed:
        raise Ring(ring_among(masks, ringed))
    return over


def covering(over, element):
    """The elements that cover an element, in ascending order."""
    mask = over[element]
    for high in ones(over[element]):
        mask = mask & ~over[high]
    return ones(mask)


def lows_of(size, pairs):
    """For each element the first elements of the pairs that end with it, in the order of the pairs."""
    lows = [[] for _ in range(size)]
    for low, high in pairs:
        lows[high].append(low)
    return lows


class Order:
    """An order of the elements 0, 1, .., size - 1, made of pairs (low, high)."""

    def __init__(self, size, pairs):
        check_size(size)
        check_pairs(size, pairs)
        over = masks_above(size, pairs)
        self._size = size
        self._over = [ones(mask) for mask in over]
        self._covering = [covering(over, element) for element in range(size)]
        # The keys stand in ascending order, as iteration gives them.
        self._stands = {(low, high): True for low in range(size) for high in self._over[low]}
        self._under = lows_of(size, list(self._stands))

    @property
    def size(self):
        """The number of elements."""
        return self._size

    def below(self, low, high):
        """True if low is below high."""
        return (low, high) in self._stands

    def apart(self, one, other):
        """True if the two are different and neither is below the other one."""
        return one != other and not self.below(one, other) and not self.below(other, one)

    def __contains__(self, pair):
        return pair in self._stands

    def __iter__(self):
        return iter(self._stands)

    def pairs(self):
        """All pairs of an element and one above it, in ascending order."""
        return list(self._stands)

    def covers(self):
        """The pairs of an element and one that covers it, in ascending order."""
        return [(low, high) for low in range(self._size) for high in self._covering[low]]

    def above(self, element):
        """The elements above an element, in ascending order."""
        return list(self._over[element])

    def under(self, element):
        """The elements below an element, in ascending order."""
        return list(self._under[element])

    def upper_covers(self, element):
        """The elements that cover an element, in ascending order."""
        return list(self._covering[element])

    def lowest(self):
        """The elements with no element below them, in ascending order."""
        return [element for element in range(self._size) if not self._under[element]]

    def highest(self):
        """The elements with no element above them, in ascending order."""
        return [element for element in range(self._size) if not self._over[element]]


def same(one, other):
    """True if two orders have the same size and the same elements below the same ones."""
    return one.size == other.size and one.pairs() == other.pairs()
