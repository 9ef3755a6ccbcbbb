"""Heights, levels and longest chains, and drawings by levels."""


def heights(order):
    """For each element, how many elements a longest chain that ends with it has below it."""
    under = [order.under(element) for element in range(order.size)]
    found = [0] * order.size
    # An element has more elements below it than each of these has, so they come first.
    for element in sorted(range(order.size), key=lambda one: len(under[one])):
        found[element] = max([found[low] + 1 for low in under[element]], default=0)
    return found


def levels(order):
    """The lists of the elements of each height."""
    tall = heights(order)
    found = [[] for _ in range(max(tall, default=-1) + 1)]
    for element, height in enumerate(tall):
        found[height].append(element)
    return found


def longest_chain(order):
    """Some chain with as many elements as possible."""
    chain = []
    for level in reversed(levels(order)):
        # Each element that is not of height 0 has one of the next lower height below it.
        lower = [element for element in level if not chain or order.below(element, chain[-1])]
        chain.append(lower[0])
    return chain[::-1]


def paper_against(order):
    """Elements (a, b, c) with a below b and c apart from both, or None."""
    for low, high in order:
        for other in range(order.size):
            if order.apart(low, other) and order.apart(high, other):
                return (low, high, other)
    return None


def draw_levels(order):
    """True and the heights of the elements, or False and a paper against levels."""
    paper = paper_against(order)
    if paper is not None:
        return (False, paper)
    return (True, tuple(heights(order)))
