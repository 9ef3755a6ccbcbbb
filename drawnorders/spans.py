"""Drawings as spans of time."""


def lower_sets(order):
    """The different sets of the elements below an element, each an ascending tuple."""
    found = {tuple(order.under(element)): True for element in range(order.size)}
    return list(found)


def end_count(order):
    """The number of different lower sets."""
    return len(lower_sets(order))


def only_below(order, high, other):
    """The elements that are below one element and not below another one."""
    return [low for low in order.under(high) if not order.below(low, other)]


def spans_paper(order):
    """Elements (a, b, c, d) with a below b, c below d, and the other pairs apart, or None."""
    for high in range(order.size):
        for other in range(high):
            lows = only_below(order, high, other)
            feet = only_below(order, other, high)
            if lows and feet:
                # Were two more of these comparable, one of the lower ones would be below both others.
                return (lows[0], high, feet[0], other)
    return None


def spans_of(order):
    """For each element its left and its right, in an order without a paper."""
    lowers = lower_sets(order)
    found = []
    for element in range(order.size):
        many = len(order.under(element))
        # For want of a paper, of each two lower sets one is within the other.
        left = len([lower for lower in lowers if len(lower) < many])
        right = len([lower for lower in lowers if element not in lower]) - 1
        found.append((left, right))
    return tuple(found)


def draw_spans(order):
    """True and the spans of the elements, or False and a paper against spans."""
    paper = spans_paper(order)
    if paper is not None:
        return (False, paper)
    return (True, spans_of(order))
