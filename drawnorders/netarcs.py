"""Drawings as the arcs of a net."""


def paper_against(order):
    """Elements (a, b, c, d) where c covers a and b, and d covers b, but not a, or None."""
    covers = order.covers()
    for one, high in covers:
        for other in [low for low, top in covers if top == high]:
            for top in order.upper_covers(other):
                if top not in order.upper_covers(one):
                    return (one, other, high, top)
    return None


def heads(order):
    """For each element its head: the same one for elements that the same elements cover."""
    covering = [tuple(order.upper_covers(element)) for element in range(order.size)]
    numbers = {}
    for tops in covering:
        if tops and tops not in numbers:
            numbers[tops] = len(numbers) + 1
    return [numbers.get(tops, len(numbers) + 1) for tops in covering]


def arcs(order):
    """For each element its tail and its head, in an order without a paper."""
    ends = heads(order)
    tails = [0] * order.size
    # All elements that an element covers have the same head, for want of a paper.
    for low, high in order.covers():
        tails[high] = ends[low]
    return tuple(zip(tails, ends))


def draw_arcs(order):
    """True and the arcs of the elements, or False and a paper against a net."""
    paper = paper_against(order)
    if paper is not None:
        return (False, paper)
    return (True, arcs(order))
