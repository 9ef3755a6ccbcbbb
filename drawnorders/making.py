"""Orders made of other orders."""

from drawnorders.order import Order, check_size


def dual(order):
    """The order upside down."""
    return Order(order.size, [(high, low) for low, high in order])


def renamed(order, names):
    """The order in which each element has the name at its place in a list."""
    return Order(order.size, [(names[low], names[high]) for low, high in order])


def part(order, members):
    """The order of the elements of a list, numbered by their places in it."""
    places = range(len(members))
    pairs = [(low, high) for low in places for high in places if order.below(members[low], members[high])]
    return Order(len(members), pairs)


def beside(orders):
    """The orders of a list, numbered one after another, the elements of different ones apart."""
    total = sum([order.size for order in orders])
    check_size(total)
    pairs = []
    start = 0
    for order in orders:
        pairs.extend([(start + low, start + high) for low, high in order])
        start += order.size
    return Order(total, pairs)


def stacked(orders):
    """The orders of a list, numbered one after another, each one below all later ones."""
    loose = beside(orders)
    pairs = loose.pairs()
    start = 0
    for order in orders:
        end = start + order.size
        pairs.extend([(low, high) for low in range(start, end) for high in range(end, loose.size)])
        start = end
    return Order(loose.size, pairs)


def at_most(order, low, high):
    """True if low is the same as high or below it."""
    return low == high or order.below(low, high)


def product(one, other):
    """The order of the pairs of an element of each of two orders."""
    check_size(one.size * other.size)
    spots = [(left, right) for left in range(one.size) for right in range(other.size)]
    pairs = []
    for low, (left, right) in enumerate(spots):
        for high, (wide, far) in enumerate(spots):
            if low != high and at_most(one, left, wide) and at_most(other, right, far):
                pairs.append((low, high))
    return Order(len(spots), pairs)
