"""Drawings as trees of parts that stand side by side or above one another."""


def groups(order, members, apart):
    """The least groups of the members such that elements of two groups are never apart, or always.

    With apart True they are never apart, with apart False always. The groups stand in ascending order
    of their least elements, and so do the elements in each of them.
    """
    found = []
    left = members
    while left:
        group = [left[0]]
        left = left[1:]
        at = 0
        while at < len(group):
            near = [element for element in left if order.apart(group[at], element) == apart]
            left = [element for element in left if element not in near]
            group.extend(near)
            at += 1
        found.append(sorted(group))
    return found


def from_below(order, stack):
    """Groups of which each two stand one below the other, the lowest one first."""
    bottoms = [group[0] for group in stack]
    return sorted(stack, key=lambda group: len([low for low in bottoms if order.below(low, group[0])]))


def joined(order, word, parts):
    """The tree of a word and the trees of the parts, or None if a part has no tree."""
    trees = [tree_of(order, members) for members in parts]
    if None in trees:
        return None
    return (word, tuple(trees))


def tree_of(order, members):
    """The tree of the order on some members, which stand in ascending order, or None."""
    if len(members) == 1:
        return ("one", members[0])
    sides = groups(order, members, False)
    if len(sides) != 1:
        return joined(order, "beside", sides)
    stack = groups(order, members, True)
    if len(stack) != 1:
        return joined(order, "above", from_below(order, stack))
    return None


def foot_of(order, one, high, other):
    """An element below high and apart from one and from other, or None."""
    for low in order.under(high):
        if order.apart(low, one) and order.apart(low, other):
            return low
    return None


def paper_against(order):
    """Elements (a, b, c, d) with a and b below c, b below d, and the other pairs apart, or None."""
    for one in range(order.size):
        over = order.above(one)
        forks = [(high, other) for high in over for other in over if order.apart(high, other)]
        for high, other in forks:
            foot = foot_of(order, one, high, other)
            if foot is not None:
                return (foot, one, high, other)
    return None


def draw_joins(order):
    """True and the tree of the order, or False and a paper against joins."""
    tree = tree_of(order, list(range(order.size)))
    if tree is None:
        return (False, paper_against(order))
    return (True, tree)
