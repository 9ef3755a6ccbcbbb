"""Rows: all elements, each behind those below it. They are counted and numbered without a list of them."""

from drawnorders.errors import NoRow
from drawnorders.lots import lot_masks
from drawnorders.order import ones


def is_row(order, row):
    """True if each element of a tuple of all elements stands behind all elements below it."""
    places = {element: at for at, element in enumerate(row)}
    return all([places[low] < places[high] for low, high in order])


def ways_on(order):
    """For each mask of a lot, in how many ways rows that begin with its elements go on."""
    full = (1 << order.size) - 1
    found = {}
    # A lot with one element more is a greater number, and a set that is no lot is no key.
    for lot in sorted(lot_masks(order), reverse=True):
        fuller = [lot | 1 << element for element in range(order.size) if not lot >> element & 1]
        found[lot] = 1 if lot == full else sum([found.get(mask, 0) for mask in fuller])
    return found


def row_count(order):
    """The number of rows."""
    return ways_on(order)[0]


def element_ahead(order, ways, lot, number):
    """A pair of the element that comes next in the row with a number, and the number of the row among
    those that go on with this element. Only rows that begin with a lot, in some one way, are numbered here.
    """
    left = number
    for element in range(order.size):
        many = 0 if lot >> element & 1 else ways.get(lot | 1 << element, 0)
        if left < many:
            return (element, left)
        left -= many
    return None


def row_with(order, ways, number):
    """The row with a number, which some row has."""
    row = []
    lot = 0
    left = number
    for _ in range(order.size):
        element, left = element_ahead(order, ways, lot, left)
        row.append(element)
        lot = lot | 1 << element
    return tuple(row)


def row_at(order, number):
    """The row with a number; raises NoRow if there is none."""
    ways = ways_on(order)
    if number < 0 or number >= ways[0]:
        raise NoRow("no row has this number")
    return row_with(order, ways, number)


def row_number(order, row):
    """The number of a row."""
    ways = ways_on(order)
    number = 0
    lot = 0
    for element in row:
        lesser = [lot | 1 << other for other in range(element) if not lot >> other & 1]
        number += sum([ways.get(mask, 0) for mask in lesser])
        lot = lot | 1 << element
    return number


def rows(order, start):
    """Yield the rows from a number on."""
    ways = ways_on(order)
    for number in range(start, ways[0]):
        yield row_with(order, ways, number)


def place_counts(order):
    """For each element a list that tells how many rows have it at index 0, 1, and so on."""
    ways = ways_on(order)
    # In how many ways rows begin with the elements of a lot. Lots with fewer elements are lesser numbers.
    reached = {lot: 0 for lot in ways}
    reached[0] = 1
    counts = [[0] * order.size for _ in range(order.size)]
    for lot in sorted(ways):
        at = len(ones(lot))
        for element in range(order.size):
            fuller = lot | 1 << element
            if fuller != lot and fuller in ways:
                counts[element][at] += reached[lot] * ways[fuller]
                reached[fuller] = reached[fuller] + reached[lot]
    return counts


def swaps(one, other):
    """Some list of places of swaps of neighbours that lead from a row to another one, as few as possible."""
    places = []
    left = list(one)
    for at, element in enumerate(other):
        # It passes the elements ahead of it that stand behind it in the other row, and no other ones.
        many = left.index(element)
        places.extend([at + step for step in range(many - 1, -1, -1)])
        left = [rest for rest in left if rest != element]
    return places
