"""Any number of rows that draw an order, and closing trees, which show that so many rows do not."""

from drawnorders.drawings import is_line
from drawnorders.errors import Ring
from drawnorders.judge import are_different, is_arc
from drawnorders.order import Order
from drawnorders.things import is_element, is_tuple
from drawnorders.tworows import line_of


def free_rows(loose, pair):
    """The numbers of the rows in which the first element of a pair may stand ahead of the second one."""
    low, high = pair
    return [row for row, order in enumerate(loose) if not order.below(high, low)]


def missing_pairs(order, loose):
    """The pairs of elements that are apart of which no row has the first one ahead of the second one."""
    every = range(order.size)
    apart = [(low, high) for low in every for high in every if order.apart(low, high)]
    return [pair for pair in apart if not any([pair in one for one in loose])]


def drawn_with(order, lists, loose, row, pair):
    """As `drawn`, with a pair more in the list of a row."""
    more = lists[row] + [pair]
    try:
        fuller = Order(order.size, order.pairs() + more)
    except Ring as found:
        return (False, ("ring", row, tuple(found.ring)))
    after = row + 1
    return drawn(order, lists[:row] + [more] + lists[after:], loose[:row] + [fuller] + loose[after:])


def drawn(order, lists, loose):
    """True and rows that draw the order, or False and a closing tree, where each row has a list of pairs.

    `loose` has for each row the order that its list makes of the order. Each split puts a pair into
    a list that was in none, so trees are nested at most two deep for each pair, and two more.
    """
    missing = missing_pairs(order, loose)
    if not missing:
        return (True, tuple([line_of(one, []) for one in loose]))
    # The pair that the fewest rows may have: with none of them or one there is nothing to search.
    pair = min(missing, key=lambda one: len(free_rows(loose, one)))
    trees = []
    for row in range(len(loose)):
        word, paper = drawn_with(order, lists, loose, row, pair)
        if word:
            return (True, paper)
        trees.append(paper)
    return (False, ("split", pair, tuple(trees)))


def draw_many(order, count):
    """True and so many rows that draw the order, or False and a closing tree for so many rows."""
    return drawn(order, [[] for _ in range(count)], [order for _ in range(count)])


def least_rows(order):
    """The least number of rows that draw the order, such rows, and a closing tree for one less, or None for 1."""
    count = 1
    tree = None
    word, paper = draw_many(order, count)
    while not word:
        tree = paper
        count += 1
        word, paper = draw_many(order, count)
    return (count, paper, tree)


def draw_order(order, lines):
    """True if lines of all elements draw the order."""
    every = range(order.size)
    places = [[line.index(element) for element in every] for line in lines]
    for low in every:
        for high in every:
            if order.below(low, high) != all([place[low] < place[high] for place in places]):
                return False
    return True


def are_rows(order, count, thing):
    """True if a thing is a tuple of so many rows that draw the order."""
    if not is_tuple(thing, count) or not all([is_line(line) and len(line) == order.size for line in thing]):
        return False
    return draw_order(order, thing)


def is_ring(order, row, ring, added):
    """True if a thing is a ring of a row: each two are a pair of the order or one that was added to the row."""
    if not isinstance(ring, tuple) or not ring or not are_different(order, ring, len(ring)):
        return False
    after = ring[1:] + ring[:1]
    return all([order.below(low, high) or (row, low, high) in added for low, high in zip(ring, after)])


def closes(order, count, thing, added):
    """True if a thing is a closing tree, where triples of a row and two elements tell what was added to the rows."""
    if not is_tuple(thing, 3):
        return False
    word, key, inner = thing
    if word == "ring":
        return is_element(key, count) and is_ring(order, key, inner, added)
    if word != "split" or not is_arc(order, key) or not is_tuple(inner, count):
        return False
    low, high = key
    for row, tree in enumerate(inner):
        if not closes(order, count, tree, added + [(row, low, high)]):
            return False
    return True


def takes_many(order, count, verdict, paper):
    """True if a thing is so many rows that draw the order, for the verdict True, or a closing tree, for False."""
    if verdict is True:
        return are_rows(order, count, paper)
    if verdict is False:
        return closes(order, count, paper, [])
    return False
