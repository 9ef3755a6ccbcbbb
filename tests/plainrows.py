"""Rows, lots and closing trees for the tests, straight from points 17 to 20."""

import itertools


def listed_rows(facts, row=()):
    """All rows, point 18, in ascending order."""
    if len(row) == facts.size:
        yield row
    for e in range(facts.size):
        if e not in row and all(low in row for low in range(facts.size) if facts.below(low, e)):
            yield from listed_rows(facts, row + (e,))


def is_row(facts, row):
    """True if each element stands behind all elements below it."""
    return all(row.index(low) < row.index(high) for low, high in facts.stands)


def listed_lots(facts):
    """All lots, point 20, among all sets of elements: those with fewer elements first, then in ascending order."""
    return [some for many in range(facts.size + 1) for some in itertools.combinations(range(facts.size), many)
            if is_lot(facts, some)]


def is_lot(facts, members):
    return all(low in members for low, high in facts.stands if high in members)


def are_lots(size, rows):
    """True if a list tells each lot of some order once, by the words of point 20."""
    told = [frozenset(row) for row in rows]
    some = set(told)
    if len(some) != len(told) or frozenset() not in some or frozenset(range(size)) not in some:
        return False
    if not all(a | b in some and a & b in some for a, b in itertools.combinations(told, 2)):
        return False
    return all(any((a in one) != (b in one) for one in told) for a, b in itertools.combinations(range(size), 2))


def read_back(size, rows):
    """The pairs of the order that has these lots."""
    return sorted((a, b) for a, b in itertools.permutations(range(size), 2) if all(a in one for one in rows if b in one))


def draw_it(facts, lines):
    """True if tuples of all elements draw the order, point 17."""
    places = [{e: at for at, e in enumerate(line)} for line in lines]
    ahead = {(a, b) for a, b in itertools.permutations(range(facts.size), 2) if all(at[a] < at[b] for at in places)}
    return len(lines) > 0 and ahead == facts.stands


def are_rows(facts, count, thing):
    """True if a thing is a tuple of so many rows that draw the order."""
    if type(thing) is not tuple or len(thing) != count:
        return False
    for line in thing:
        if type(line) is not tuple or not all(type(e) is int for e in line) or sorted(line) != list(range(facts.size)):
            return False
    return draw_it(facts, thing)


def is_element(facts, thing):
    return type(thing) is int and 0 <= thing < facts.size


def is_closing(facts, count, thing, lists=None):
    """True if a thing is a closing tree for so many rows, point 17."""
    lists = [[] for _ in range(count)] if lists is None else lists
    if type(thing) is not tuple or len(thing) != 3 or type(thing[0]) is not str:
        return False
    word, at, inner = thing
    if type(inner) is not tuple:
        return False
    if word == "ring":
        if type(at) is not int or not 0 <= at < count or not inner or not all(is_element(facts, e) for e in inner):
            return False
        steps = [(inner[k], inner[(k + 1) % len(inner)]) for k in range(len(inner))]
        return len(set(inner)) == len(inner) and all(facts.below(*step) or step in lists[at] for step in steps)
    if word != "split" or type(at) is not tuple or len(at) != 2 or len(inner) != count:
        return False
    if not all(is_element(facts, e) for e in at) or not facts.apart(*at):
        return False
    return all(is_closing(facts, count, tree, [pairs + [at] if k == row else pairs for k, pairs in enumerate(lists)])
               for row, tree in enumerate(inner))


def crown(half):
    """Elements below and as many above, each of which is above all of the others but one."""
    return [(a, half + b) for a in range(half) for b in range(half) if a != b]


def crown_tree(half, count, put=()):
    """A closing tree for fewer rows than half the crown has, told by hand: two of the elements
    above stand ahead of their element below in one row, which makes a ring.

    `put` tells for each element so far in which row it does so.
    """
    if len(set(put)) < len(put):
        row = [row for row in put if put.count(row) == 2][0]
        one, other = [e for e, k in enumerate(put) if k == row]
        return ("ring", row, (half + one, one, half + other, other))
    pair = (half + len(put), len(put))
    return ("split", pair, tuple(crown_tree(half, count, put + (row,)) for row in range(count)))
