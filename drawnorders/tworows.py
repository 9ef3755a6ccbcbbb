"""Drawings by two rows."""

from drawnorders.order import ones


def graph_of(order):
    """For each element the mask of the elements that are apart from it."""
    every = range(order.size)
    return [sum([1 << other for other in every if order.apart(one, other)]) for one in every]


def forced(graph, arc):
    """The arcs that an arc forces, among the arcs that a graph has."""
    tail, head = arc
    heads = graph[tail] & ~graph[head] & ~(1 << head)
    tails = graph[head] & ~graph[tail] & ~(1 << tail)
    return [(tail, other) for other in ones(heads)] + [(other, head) for other in ones(tails)]


def forced_from(graph, first):
    """All arcs that an arc forces through others, each with the one that forces it; the arc itself with None."""
    found = {first: None}
    fresh = [first]
    while fresh:
        later = []
        for arc in list(fresh):
            for other in forced(graph, arc):
                if other not in found:
                    found[other] = arc
                    later.append(other)
        fresh = later
    return found


def way_to(found, last):
    """The arcs from the first one to a last one, each of which forces the next one."""
    way = []
    arc = last
    while arc is not None:
        way.append(arc)
        arc = found[arc]
    return tuple(way[::-1])


def rising_arcs(order):
    """The arcs from an element to a greater number, in ascending order."""
    every = range(order.size)
    return [(one, other) for one in every for other in every if one < other and order.apart(one, other)]


def rows_paper(order):
    """A ring of arcs, each of which forces the next one, from an arc to the same one reversed, or None."""
    graph = graph_of(order)
    seen = set()
    for one, other in rising_arcs(order):
        if (one, other) not in seen:
            found = forced_from(graph, (one, other))
            if (other, one) in found:
                return way_to(found, (other, one))
            # What an arc forces, reversed, is what the arc reversed forces.
            for tail, head in found:
                seen.add((tail, head))
                seen.add((head, tail))
    return None


def directions(order):
    """An arc for each two elements that are apart, so that these arcs make an order, for want of a paper.

    Any arc may be taken, with all that it forces. The rest is a graph of its own, in which arcs may
    force more than before: it is known that in this graph, too, no arc forces itself reversed, and
    that all arcs that are taken make an order.
    """
    graph = graph_of(order)
    taken = []
    for one, other in rising_arcs(order):
        if graph[one] >> other & 1:
            found = list(forced_from(graph, (one, other)))
            taken.extend(found)
            for tail, head in found:
                graph[tail] = graph[tail] & ~(1 << head)
                graph[head] = graph[head] & ~(1 << tail)
    return taken


def line_of(order, arcs):
    """All elements in a line, each one behind those below it and behind the tails of the arcs to it."""
    ahead = [len(order.under(element)) for element in range(order.size)]
    for _, head in arcs:
        ahead[head] += 1
    return tuple(sorted(range(order.size), key=lambda element: ahead[element]))


def draw_rows(order):
    """True and two rows that show the order, or False and a paper against two rows."""
    paper = rows_paper(order)
    if paper is not None:
        return (False, paper)
    arcs = directions(order)
    reversed_arcs = [(head, tail) for tail, head in arcs]
    return (True, (line_of(order, arcs), line_of(order, reversed_arcs)))
