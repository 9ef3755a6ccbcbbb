"""How many elements so many chains or antichains cover, with chains and antichains that show it."""

from drawnorders.width import (
    chains_along, farthest, foot_and_top, have_each_once, is_antichain, is_chain, open_steps, ways_found)


def members_of(parts):
    """The elements of some lists, one list after another."""
    return [element for members in parts for element in members]


def with_the_rest(order, parts):
    """Some lists, and a list of its own for each element that is in none of them."""
    covered = members_of(parts)
    return parts + [[element] for element in range(order.size) if element not in covered]


def antichains_across(order, used, count):
    """At most so many antichains, without an element in two of them, that the ways in use cross.

    They have just as many elements as each way in use could cross in so many, and each element that
    no way passes. There are such antichains if each way added at least so many elements, and one way
    more would add at most so many.
    """
    foot, top = foot_and_top(order)
    # The top stands exactly so far from the foot.
    far, _ = farthest(order, open_steps(order, used) + [(foot, top, count), (top, foot, -count)])
    crossed = [element for element in range(order.size) if far[element] < far[order.size + element]]
    # An element above another one of these stands farther than that one.
    levels = sorted(set([far[element] for element in crossed]))
    return [[element for element in crossed if far[element] == level] for level in levels]


def chain_cover(order, count):
    """The greatest number of elements that so many chains cover, and some chains and antichains that show it."""
    used, gains = ways_found(order, count, 0)
    antichains = antichains_across(order, used, gains[-1] if gains else order.size)
    return (sum(gains), chains_along(order, used), with_the_rest(order, antichains))


def antichain_cover(order, count):
    """The greatest number of elements that so many antichains cover, and some antichains and chains that show it."""
    used, _ = ways_found(order, order.size, count)
    antichains = antichains_across(order, used, count)
    return (len(members_of(antichains)), antichains, with_the_rest(order, chains_along(order, used)))


def shape(order):
    """How many elements more 1, 2, 3, .. chains cover than one chain less, as long as there are any."""
    return ways_found(order, order.size, 0)[1]


def meet(order, count, few, parts):
    """True if at most so many lists have no element twice, and as many elements as other lists, which
    have each element once, can give of which each one gives at most so many.
    """
    covered = members_of(few)
    if len(few) > count or len(set(covered)) != len(covered) or not have_each_once(order, parts):
        return False
    return len(covered) == sum([min(count, len(members)) for members in parts])


def shows_chain_cover(order, count, chains, antichains):
    """True if lists are chains and antichains that show a cover by so many chains."""
    fits = all([is_chain(order, chain) for chain in chains])
    return fits and all([is_antichain(order, some) for some in antichains]) and meet(order, count, chains, antichains)


def shows_antichain_cover(order, count, antichains, chains):
    """True if lists are antichains and chains that show a cover by so many antichains."""
    fits = all([is_antichain(order, some) for some in antichains])
    return fits and all([is_chain(order, chain) for chain in chains]) and meet(order, count, antichains, chains)
