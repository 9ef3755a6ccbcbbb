"""Lots: sets of elements that have, with each element, all elements below it."""

from drawnorders.errors import BadLots, Ring
from drawnorders.order import Order, ones
from drawnorders.tworows import line_of


def mask_of(members):
    """The integer whose bits tell which elements a list or tuple has."""
    mask = 0
    for element in members:
        mask = mask | 1 << element
    return mask


def lot_masks(order):
    """The mask of each lot, once."""
    found = [0]
    # Elements behind an element in the line are not below it, so each lot of those before it that has
    # all elements below it makes one more with it.
    for element in line_of(order, []):
        under = mask_of(order.under(element))
        found = found + [mask | 1 << element for mask in found if under & ~mask == 0]
    return found


def lots(order):
    """All lots, each an ascending tuple: those with fewer elements first, those with as many in ascending order."""
    return sorted([tuple(ones(mask)) for mask in lot_masks(order)], key=lambda lot: (len(lot), lot))


def lot_count(order):
    """The number of lots."""
    return len(lot_masks(order))


def with_under(order, members):
    """The mask of the elements of a list and of all elements below them."""
    return mask_of(members) | mask_of([low for element in members for low in order.under(element)])


def is_lot(order, members):
    """True if a list of different elements has just the elements of a lot."""
    return with_under(order, members) == mask_of(members)


def closed_lot(order, members):
    """The least lot that has all elements of a list, an ascending tuple."""
    return tuple(ones(with_under(order, members)))


def shared(size, masks, element):
    """The mask of the elements that all those masks have which have an element."""
    mask = (1 << size) - 1
    for other in masks:
        if other >> element & 1:
            mask = mask & other
    return mask


def pairs_read(size, masks):
    """All pairs of different elements of which the first one is in each mask that has the second one."""
    found = []
    for high in range(size):
        found.extend([(low, high) for low in ones(shared(size, masks, high)) if low != high])
    return found


def order_of_lots(size, rows):
    """The order of a size whose lots are the sets that a list tells; raises BadLots if there is none."""
    masks = [mask_of(members) for members in rows]
    try:
        order = Order(size, pairs_read(size, masks))
    except Ring:
        raise BadLots("no set has just one of two elements") from None
    # No other order has these lots, so they are its lots or there is no such order.
    if sorted(lot_masks(order)) != sorted(masks):
        raise BadLots("the sets are not the lots of an order")
    return order
