"""Drawings as spans of one length, and rings that show that no less length will do."""

from drawnorders.spans import spans_paper


def steps_in(order, ring):
    """A pair of the numbers of steps of a ring up and of its other steps, or None if it is no ring."""
    rises = 0
    others = 0
    for one, other in zip(ring, ring[1:] + ring[:1]):
        if order.below(one, other):
            rises += 1
        elif one == other or order.apart(one, other):
            others += 1
        else:
            return None
    return (rises, others)


def shows_length(order, length, ring):
    """True if a ring, a tuple of elements, shows that no drawing has less than a length from 1 on."""
    counts = steps_in(order, ring)
    if counts is None:
        return False
    rises, others = counts
    return rises * length > others * (length - 1)


def length_shown(order, ring):
    """The greatest length that a ring shows, in an order that has a drawing."""
    rises, others = steps_in(order, ring)
    # In such an order a ring has more other steps than steps up. This is the least length with
    # rises * (length + 1) <= others * length, rounded up by the two signs.
    return -(-rises // (others - rises))


def steps_between(order):
    """Triples of two elements that are a step, and True if the first one is below the second one."""
    every = range(order.size)
    apart = [(one, other, False) for one in every for other in every if order.apart(one, other)]
    return [(low, high, True) for low, high in order] + apart


def push(steps, length, starts, behind):
    """Put off each start that a step forbids, with the element that puts it off. The last one put off, or None."""
    last = None
    for one, other, rising in steps:
        least = starts[one] + length + 1 if rising else starts[one] - length
        if starts[other] < least:
            starts[other] = least
            behind[other] = one
            last = other
    return last


def ring_behind(behind, last):
    """The ring into which the way back from an element leads, in the order of its steps."""
    walk = [last]
    while behind[walk[-1]] not in walk:
        walk.append(behind[walk[-1]])
    ring = walk[walk.index(behind[walk[-1]]):]
    return tuple(ring[::-1])


def starts_or_ring(order, length):
    """The least starts with a length and None, or None and a ring that shows a greater length."""
    steps = steps_between(order)
    starts = [0] * order.size
    behind = [None] * order.size
    # A start that is put off in a later turn than there are elements has as long a way behind it,
    # in which some element stands twice.
    for _ in range(order.size + 1):
        last = push(steps, length, starts, behind)
        if last is None:
            return (tuple(starts), None)
    return (None, ring_behind(behind, last))


def least_length(order):
    """The least length, the least starts with it, and a ring that shows it, which is empty for the length 0."""
    length = 0
    shown = ()
    starts, ring = starts_or_ring(order, length)
    while ring is not None:
        shown = ring
        length = length_shown(order, ring)
        starts, ring = starts_or_ring(order, length)
    return (length, starts, shown)


def chain_of_three(order, members):
    """Three of some elements of which each is below the next one, or None."""
    for middle in members:
        lows = [low for low in members if order.below(low, middle)]
        highs = [high for high in members if order.below(middle, high)]
        if lows and highs:
            return (lows[0], middle, highs[0])
    return None


def unit_paper(order):
    """Elements (a, b, c, d) as against spans, or with a below b, b below c, and d apart from these, or None."""
    paper = spans_paper(order)
    if paper is not None:
        return paper
    for alone in range(order.size):
        near = [element for element in range(order.size) if order.apart(element, alone)]
        chain = chain_of_three(order, near)
        if chain is not None:
            return (*chain, alone)
    return None


def draw_unit(order):
    """True and the least length with the least starts, or False and a paper against spans of one length."""
    paper = unit_paper(order)
    if paper is not None:
        return (False, paper)
    length, starts, _ = least_length(order)
    return (True, (length, starts))
