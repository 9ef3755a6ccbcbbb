"""The forms of drawings, and the orders that they show."""

from drawnorders.errors import BadDrawing, Ring
from drawnorders.order import MOST, Order
from drawnorders.things import is_element, is_number, is_tuple
from drawnorders.trees import elements_in

KINDS = ("levels", "forest", "joins", "arcs", "spans", "unit", "rows")


def check_form(fits):
    """Raise BadDrawing if a thing does not have the form of its kind."""
    if not fits:
        raise BadDrawing("the thing is no drawing of this kind")


def is_short(thing):
    """True if a thing is a tuple that may have an item for each element."""
    return isinstance(thing, tuple) and len(thing) <= MOST


def are_numbers(thing):
    """True if a thing is a tuple with an integer for each element."""
    return is_short(thing) and all([is_number(item) for item in thing])


def are_pairs(thing):
    """True if a thing is a tuple with a pair of integers for each element."""
    return is_short(thing) and all([is_tuple(item, 2) and are_numbers(item) for item in thing])


def is_line(thing):
    """True if a thing is a tuple of all elements of a size, each once."""
    return are_numbers(thing) and sorted(thing) == list(range(len(thing)))


def levels_shown(drawing):
    """The size and pairs that a drawing by levels shows."""
    check_form(are_numbers(drawing))
    every = range(len(drawing))
    return (len(drawing), [(low, high) for low in every for high in every if drawing[low] < drawing[high]])


def forest_shown(drawing):
    """The size and pairs that parents show."""
    check_form(is_short(drawing))
    size = len(drawing)
    check_form(all([parent is None or is_element(parent, size) for parent in drawing]))
    return (size, [(parent, element) for element, parent in enumerate(drawing) if parent is not None])


def is_tree(thing):
    """True if a thing has the form of a tree, with any integers for elements."""
    if not is_tuple(thing, 2):
        return False
    word, inner = thing
    if word == "one":
        return is_number(inner)
    return word in ("beside", "above") and isinstance(inner, tuple) and all([is_tree(part) for part in inner])


def tree_pairs(tree):
    """All pairs of an element and one above it in the order that a tree shows."""
    word, inner = tree
    if word == "one":
        return []
    found = []
    before = []
    for part in inner:
        members = elements_in(part)
        if word == "above":
            found.extend([(low, high) for low in before for high in members])
        found.extend(tree_pairs(part))
        before.extend(members)
    return found


def joins_shown(drawing):
    """The size and pairs that a tree shows."""
    check_form(is_tree(drawing))
    members = elements_in(drawing)
    check_form(is_line(tuple(members)))
    return (len(members), tree_pairs(drawing))


def arcs_shown(drawing):
    """The size and pairs that the arcs of a net show."""
    check_form(are_pairs(drawing))
    every = range(len(drawing))
    return (len(drawing), [(low, high) for low in every for high in every if drawing[low][1] == drawing[high][0]])


def spans_shown(drawing):
    """The size and pairs that spans of time show."""
    check_form(are_pairs(drawing))
    check_form(all([left <= right for left, right in drawing]))
    every = range(len(drawing))
    return (len(drawing), [(low, high) for low in every for high in every if drawing[low][1] < drawing[high][0]])


def unit_shown(drawing):
    """The size and pairs that spans of one length show."""
    check_form(is_tuple(drawing, 2))
    length, starts = drawing
    check_form(is_number(length) and length >= 0 and are_numbers(starts))
    every = range(len(starts))
    return (len(starts), [(low, high) for low in every for high in every if starts[low] + length < starts[high]])


def rows_shown(drawing):
    """The size and pairs that two rows show."""
    check_form(is_tuple(drawing, 2))
    one, other = drawing
    check_form(is_line(one) and is_line(other) and len(one) == len(other))
    pairs = []
    for at, low in enumerate(one):
        later = other[other.index(low) + 1:]
        pairs.extend([(low, high) for high in one[at + 1:] if high in later])
    return (len(one), pairs)


def shown(kind, drawing):
    """The size and pairs that a drawing of a kind shows; raises BadDrawing if it has another form."""
    match kind:
        case "levels":
            return levels_shown(drawing)
        case "forest":
            return forest_shown(drawing)
        case "joins":
            return joins_shown(drawing)
        case "arcs":
            return arcs_shown(drawing)
        case "spans":
            return spans_shown(drawing)
        case "unit":
            return unit_shown(drawing)
        case _:
            return rows_shown(drawing)


def order_of(kind, drawing):
    """The order that a drawing shows; raises BadDrawing if a thing is no drawing of the kind."""
    size, pairs = shown(kind, drawing)
    try:
        return Order(size, pairs)
    except Ring:
        # Parents and arcs may have an element below itself.
        raise BadDrawing("the thing has an element below itself") from None
