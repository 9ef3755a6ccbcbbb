"""Chains and antichains, how few chains have all elements, and how many elements an antichain has.

Chains are found as ways through a net. Each element has a gate in, with the number of the element, and
a gate out, with a number that is greater by the size. A way leads from a foot into some gate in, from
a gate in to the gate out of the same element, from there to the gate in of an element above it or to a
top. One way at most passes an element, so the ways in use are chains without an element in two of them.
One way more may also lead back along steps in use, which are then in use no more.
"""

from drawnorders.making import dual


def foot_and_top(order):
    """The numbers of the foot and of the top."""
    return (2 * order.size, 2 * order.size + 1)


def open_steps(order, used):
    """Triples of two places of the net and how many elements more are passed by a step from one to the other."""
    foot, top = foot_and_top(order)
    size = order.size
    every = range(size)
    ends = [(foot, element, 0) for element in every] + [(size + element, top, 0) for element in every]
    between = [(size + low, high, 0) for low, high in order]
    fresh = [(element, size + element, 1) for element in every if (element, size + element) not in used]
    back = [(other, one, -1 if one < size else 0) for one, other in used]
    return ends + between + fresh + back


def farthest(order, steps):
    """For each place the most elements that steps from the foot to it pass, and the place that they come from.

    No ring of steps passes more elements than it gives back.
    """
    foot, top = foot_and_top(order)
    far = [None] * (top + 1)
    behind = [None] * (top + 1)
    far[foot] = 0
    moved = True
    while moved:
        moved = False
        for one, other, gain in steps:
            if far[one] is not None and (far[other] is None or far[other] < far[one] + gain):
                far[other] = far[one] + gain
                behind[other] = one
                moved = True
    return (far, behind)


def with_way(order, used, behind):
    """The steps in use after one way more, which leads back along some of those that were in use."""
    fresh = {step: True for step in used}
    last = foot_and_top(order)[1]
    while behind[last] is not None:
        first = behind[last]
        back = (last, first)
        if back in fresh:
            del fresh[back]
        else:
            fresh[(first, last)] = True
        last = first
    return fresh


def ways_found(order, most, least):
    """The steps in use by the ways that pass the most elements, and how many elements each way added.

    There are as many ways as add more than `least` elements each, but at most so many.
    """
    top = foot_and_top(order)[1]
    used = {}
    gains = []
    while len(gains) < most and sum(gains) < order.size:
        far, behind = farthest(order, open_steps(order, used))
        if far[top] <= least:
            return (used, gains)
        used = with_way(order, used, behind)
        gains.append(far[top])
    return (used, gains)


def chains_along(order, used):
    """The chains of the elements that the ways in use pass."""
    foot, top = foot_and_top(order)
    after = {one: other for one, other in used if one != foot}
    found = []
    for first in [element for element in range(order.size) if (foot, element) in used]:
        chain = [first]
        # From the gate out of the last element the way leads to the next one or to the top.
        while after[order.size + chain[-1]] != top:
            chain.append(after[order.size + chain[-1]])
        found.append(chain)
    return found


def fewest_chains(order):
    """Some chains, not empty, that have each element once, as few as possible."""
    used, _ = ways_found(order, order.size, 0)
    return chains_along(order, used)


def width(order):
    """The greatest number of elements of an antichain."""
    return len(fewest_chains(order))


def lowest_widest(order):
    """The lowest antichain with as many elements as the width, in ascending order."""
    left = fewest_chains(order)
    while True:
        feet = [chain[0] for chain in left]
        low = [foot for foot in feet if any([order.below(foot, other) for other in feet])]
        if not low:
            return sorted(feet)
        # Each such antichain has an element of what is left of each chain, so it has none of these.
        left = [chain[1:] if chain[0] in low else chain for chain in left]


def highest_widest(order):
    """The highest antichain with as many elements as the width, in ascending order."""
    return lowest_widest(dual(order))


def is_chain(order, members):
    """True if each element of a list is below the next one."""
    return all([order.below(low, high) for low, high in zip(members, members[1:])])


def is_antichain(order, members):
    """True if the elements of a list are different and any two are apart."""
    pairs = [(one, other) for at, one in enumerate(members) for other in members[at + 1:]]
    return all([order.apart(one, other) for one, other in pairs])


def have_each_once(order, parts):
    """True if lists of elements, none of them empty, have each element of the order exactly once."""
    return [] not in parts and sorted([element for members in parts for element in members]) == list(range(order.size))


def shows_width(order, chains, members):
    """True if some lists are chains that have each element once, as many as a list has elements, an antichain."""
    fits = have_each_once(order, chains) and all([is_chain(order, chain) for chain in chains])
    return fits and is_antichain(order, members) and len(members) == len(chains)
