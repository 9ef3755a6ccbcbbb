"""Drawings as forests."""


def paper_against(order):
    """Elements (a, b, c) with a and b below c and apart from one another, or None."""
    for top in range(order.size):
        under = order.under(top)
        for one in under:
            for other in under:
                if order.apart(one, other):
                    return (one, other, top)
    return None


def parents(order):
    """For each element the one that it covers, or None, in an order without a paper."""
    found = [None] * order.size
    for low, high in order.covers():
        found[high] = low
    return found


def draw_forest(order):
    """True and the parents of the elements, or False and a paper against a forest."""
    paper = paper_against(order)
    if paper is not None:
        return (False, paper)
    return (True, tuple(parents(order)))
