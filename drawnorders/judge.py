"""The judge, which takes a drawing or a paper only if it is right, and searches for nothing."""

from drawnorders.drawings import order_of
from drawnorders.errors import BadDrawing
from drawnorders.order import same
from drawnorders.things import is_element, is_tuple


def comparable(order, one, other):
    """True if one of two elements is below the other one."""
    return order.below(one, other) or order.below(other, one)


def alone(order, element, others):
    """True if an element is apart from all elements of a list."""
    return all([order.apart(element, other) for other in others])


def covers(order, high, low):
    """True if one element covers another one."""
    return high in order.upper_covers(low)


def is_levels_paper(order, paper):
    """True if three elements are a paper against levels."""
    a, b, c = paper
    return order.below(a, b) and alone(order, c, [a, b])


def is_forest_paper(order, paper):
    """True if three elements are a paper against a forest."""
    a, b, c = paper
    return order.below(a, c) and order.below(b, c) and order.apart(a, b)


def is_joins_paper(order, paper):
    """True if four elements are a paper against joins."""
    a, b, c, d = paper
    rising = order.below(a, c) and order.below(b, c) and order.below(b, d)
    return rising and order.apart(a, b) and order.apart(a, d) and order.apart(c, d)


def is_arcs_paper(order, paper):
    """True if four elements are a paper against the arcs of a net."""
    a, b, c, d = paper
    return covers(order, c, a) and covers(order, c, b) and covers(order, d, b) and not covers(order, d, a)


def is_spans_paper(order, paper):
    """True if four elements are a paper against spans."""
    a, b, c, d = paper
    return order.below(a, b) and order.below(c, d) and alone(order, a, [c, d]) and alone(order, b, [c, d])


def is_unit_paper(order, paper):
    """True if four elements are a paper against spans of one length."""
    a, b, c, d = paper
    chained = order.below(a, b) and order.below(b, c) and alone(order, d, [a, b, c])
    return chained or is_spans_paper(order, paper)


def are_different(order, thing, many):
    """True if a thing is a tuple of so many different elements."""
    if not is_tuple(thing, many) or not all([is_element(item, order.size) for item in thing]):
        return False
    return len(set(thing)) == many


def is_arc(order, thing):
    """True if a thing is a pair of elements that are apart."""
    return are_different(order, thing, 2) and order.apart(thing[0], thing[1])


def forces(order, arc, other):
    """True if an arc forces another one."""
    if arc[0] == other[0]:
        return comparable(order, arc[1], other[1])
    return arc[1] == other[1] and comparable(order, arc[0], other[0])


def is_rows_paper(order, paper):
    """True if a thing is a paper against two rows."""
    if not isinstance(paper, tuple) or not paper or not all([is_arc(order, item) for item in paper]):
        return False
    tail, head = paper[0]
    return paper[-1] == (head, tail) and all([forces(order, arc, other) for arc, other in zip(paper, paper[1:])])


def is_paper(order, kind, paper):
    """True if a thing is a paper against a kind."""
    if kind == "rows":
        return is_rows_paper(order, paper)
    if not are_different(order, paper, 3 if kind in ("levels", "forest") else 4):
        return False
    match kind:
        case "levels":
            return is_levels_paper(order, paper)
        case "forest":
            return is_forest_paper(order, paper)
        case "joins":
            return is_joins_paper(order, paper)
        case "arcs":
            return is_arcs_paper(order, paper)
        case "spans":
            return is_spans_paper(order, paper)
        case _:
            return is_unit_paper(order, paper)


def is_drawing(order, kind, thing):
    """True if a thing is a drawing of a kind that shows the order."""
    try:
        found = order_of(kind, thing)
    except BadDrawing:
        return False
    return same(order, found)


def takes(order, kind, verdict, paper):
    """True if a thing is a drawing that shows the order, for the verdict True, or a paper for the verdict False."""
    if verdict is True:
        return is_drawing(order, kind, paper)
    if verdict is False:
        return is_paper(order, kind, paper)
    return False
