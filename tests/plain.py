"""What the tests work out by themselves, straight from the words of the document."""

import itertools
import random


def closed(size, pairs):
    """The set of (low, high) for which a chain of one or more pairs leads from low to high."""
    ahead = {e: {high for low, high in pairs if low == e} for e in range(size)}
    found = set()
    for start in range(size):
        seen = set()
        waiting = list(ahead[start])
        while waiting:
            at = waiting.pop()
            if at not in seen:
                seen.add(at)
                waiting.extend(ahead[at])
        found.update((start, end) for end in seen)
    return found


class Facts:
    """The order of a size and pairs, as a set of the pairs of its closure."""

    def __init__(self, size, pairs):
        self.size = size
        self.given = list(pairs)
        self.stands = closed(size, pairs)

    def below(self, low, high):
        return (low, high) in self.stands

    def apart(self, one, other):
        return one != other and (one, other) not in self.stands and (other, one) not in self.stands

    def covers(self, low, high):
        return self.below(low, high) and not any(
            self.below(low, e) and self.below(e, high) for e in range(self.size))

    def upper_covers(self, low):
        return [high for high in range(self.size) if self.covers(low, high)]


def natural_pairs(size):
    """The closures of all lists of pairs (low, high) with low < high, each once."""
    spots = [(low, high) for high in range(size) for low in range(high)]
    found = set()
    for choice in itertools.product((False, True), repeat=len(spots)):
        taken = {spot for spot, yes in zip(spots, choice) if yes}
        # A set of pairs that is not its own closure comes again as that closure.
        if all((a, d) in taken for a, b in taken for c, d in taken if b == c):
            found.add(frozenset(taken))
    return sorted(sorted(pairs) for pairs in found)


def renamed_pairs(pairs, names):
    return sorted((names[low], names[high]) for low, high in pairs)


def all_pairs(size):
    """The pairs of all orders of a size."""
    found = set()
    for pairs in natural_pairs(size):
        for names in itertools.permutations(range(size)):
            found.add(tuple(renamed_pairs(pairs, names)))
    return sorted(found)


def shuffled_names(rng, size):
    names = list(range(size))
    rng.shuffle(names)
    return names


def random_pairs(rng, size, chance):
    """Pairs without a ring, some of them twice, in no special order."""
    names = shuffled_names(rng, size)
    pairs = [(names[low], names[high]) for high in range(size) for low in range(high) if rng.random() < chance]
    pairs = pairs + [pair for pair in pairs if rng.random() < 0.2]
    rng.shuffle(pairs)
    return pairs


def random_cases(seed, sizes, many):
    """Some sizes with pairs of very different density."""
    rng = random.Random(seed)
    cases = []
    for size in sizes:
        for turn in range(many):
            chance = rng.choice((0.0, 0.02, 0.05, 0.1, 0.2, 0.4, 0.8, 1.0))
            cases.append((size, random_pairs(rng, size, chance)))
    return cases


def with_a_pair_less_or_more(rng, size, pairs):
    """The pairs of some orders with one pair less or one pair more than the order of these pairs."""
    facts = Facts(size, pairs)
    stands = sorted(facts.stands)
    covers = [pair for pair in stands if facts.covers(*pair)]
    apart = [pair for pair in itertools.permutations(range(size), 2) if facts.apart(*pair)]
    less = [[pair for pair in stands if pair != gone] for gone in rng.sample(covers, min(3, len(covers)))]
    return less + [stands + [more] for more in rng.sample(apart, min(3, len(apart)))]


def small_cases():
    """All orders of up to four elements."""
    return [(size, list(pairs)) for size in range(5) for pairs in all_pairs(size)]


def five_cases():
    return [(5, list(pairs)) for pairs in all_pairs(5)]


def six_cases():
    """Each order of six elements, some with several of its namings."""
    rng = random.Random(6)
    return [(6, renamed_pairs(pairs, shuffled_names(rng, 6))) for pairs in natural_pairs(6)]


# Papers, point 11.

def fits_levels(facts, a, b, c):
    return facts.below(a, b) and facts.apart(c, a) and facts.apart(c, b)


def fits_forest(facts, a, b, c):
    return facts.below(a, c) and facts.below(b, c) and facts.apart(a, b)


def fits_joins(facts, a, b, c, d):
    return (facts.below(a, c) and facts.below(b, c) and facts.below(b, d)
            and facts.apart(a, b) and facts.apart(a, d) and facts.apart(c, d))


def fits_arcs(facts, a, b, c, d):
    return facts.covers(a, c) and facts.covers(b, c) and facts.covers(b, d) and not facts.covers(a, d)


def fits_spans(facts, a, b, c, d):
    return (facts.below(a, b) and facts.below(c, d) and facts.apart(a, c) and facts.apart(a, d)
            and facts.apart(b, c) and facts.apart(b, d))


def fits_unit(facts, a, b, c, d):
    if fits_spans(facts, a, b, c, d):
        return True
    return (facts.below(a, b) and facts.below(b, c)
            and facts.apart(d, a) and facts.apart(d, b) and facts.apart(d, c))


FITS = {
    "levels": (3, fits_levels), "forest": (3, fits_forest), "joins": (4, fits_joins), "arcs": (4, fits_arcs),
    "spans": (4, fits_spans), "unit": (4, fits_unit)}


def is_element(facts, thing):
    return type(thing) is int and 0 <= thing < facts.size


def is_arc(facts, thing):
    return type(thing) is tuple and len(thing) == 2 and all(is_element(facts, e) for e in thing) and facts.apart(*thing)


def forces(facts, arc, other):
    (a, b), (c, d) = arc, other
    return ((a == c and (facts.below(b, d) or facts.below(d, b)))
            or (b == d and (facts.below(a, c) or facts.below(c, a))))


def is_rows_paper(facts, paper):
    if type(paper) is not tuple or len(paper) == 0 or not all(is_arc(facts, arc) for arc in paper):
        return False
    return paper[-1] == paper[0][::-1] and all(forces(facts, *two) for two in zip(paper, paper[1:]))


def is_paper(kind, facts, paper):
    if kind == "rows":
        return is_rows_paper(facts, paper)
    many, fits = FITS[kind]
    if type(paper) is not tuple or len(paper) != many or not all(is_element(facts, e) for e in paper):
        return False
    return len(set(paper)) == many and fits(facts, *paper)


def some_rows_paper(facts):
    """True if some arc leads, each arc forcing the next one, to the same one reversed."""
    arcs = [arc for arc in itertools.permutations(range(facts.size), 2) if facts.apart(*arc)]
    ahead = {arc: [other for other in arcs if forces(facts, arc, other)] for arc in arcs}
    for first in arcs:
        reached, waiting = {first}, [first]
        while waiting:
            fresh = [other for other in ahead[waiting.pop()] if other not in reached]
            reached.update(fresh)
            waiting.extend(fresh)
        if first[::-1] in reached:
            return True
    return False


def some_paper(kind, facts):
    """True if some tuple is a paper, found by going through all of them."""
    if kind == "rows":
        return some_rows_paper(facts)
    many, fits = FITS[kind]
    return any(fits(facts, *paper) for paper in itertools.permutations(range(facts.size), many))


# Drawings, points 9 and 10: the set of pairs that a drawing shows.

def is_number(thing):
    return type(thing) is int


def shown_levels(size, drawing):
    assert type(drawing) is tuple and len(drawing) == size and all(is_number(n) for n in drawing)
    return {(a, b) for a in range(size) for b in range(size) if drawing[a] < drawing[b]}


def shown_forest(size, drawing):
    assert type(drawing) is tuple and len(drawing) == size
    assert all(p is None or (is_number(p) and 0 <= p < size) for p in drawing)
    return closed(size, [(p, e) for e, p in enumerate(drawing) if p is not None])


def shown_arcs(size, drawing):
    assert type(drawing) is tuple and len(drawing) == size
    assert all(type(arc) is tuple and len(arc) == 2 and all(is_number(n) for n in arc) for arc in drawing)
    return closed(size, [(a, b) for a in range(size) for b in range(size) if drawing[a][1] == drawing[b][0]])


def tree_members(tree):
    assert type(tree) is tuple and len(tree) == 2
    if tree[0] == "one":
        assert is_number(tree[1])
        return [tree[1]]
    assert tree[0] in ("beside", "above") and type(tree[1]) is tuple
    return [e for below in tree[1] for e in tree_members(below)]


def tree_pairs(tree):
    if tree[0] == "one":
        return set()
    found = set()
    for at, below in enumerate(tree[1]):
        found |= tree_pairs(below)
        for later in tree[1][at + 1:]:
            if tree[0] == "above":
                found |= {(a, b) for a in tree_members(below) for b in tree_members(later)}
    return found


def shown_joins(size, drawing):
    assert sorted(tree_members(drawing)) == list(range(size))
    return tree_pairs(drawing)


def shown_spans(size, drawing):
    assert type(drawing) is tuple and len(drawing) == size
    assert all(type(span) is tuple and len(span) == 2 and all(is_number(n) for n in span) for span in drawing)
    assert all(left <= right for left, right in drawing)
    return {(a, b) for a in range(size) for b in range(size) if drawing[a][1] < drawing[b][0]}


def shown_unit(size, drawing):
    assert type(drawing) is tuple and len(drawing) == 2
    length, starts = drawing
    assert is_number(length) and length >= 0
    assert type(starts) is tuple and len(starts) == size and all(is_number(n) for n in starts)
    return {(a, b) for a in range(size) for b in range(size) if starts[a] + length < starts[b]}


def shown_rows(size, drawing):
    assert type(drawing) is tuple and len(drawing) == 2
    for row in drawing:
        assert type(row) is tuple and all(is_number(e) for e in row) and sorted(row) == list(range(size))
    one, other = drawing
    return {(a, b) for a in range(size) for b in range(size)
            if one.index(a) < one.index(b) and other.index(a) < other.index(b)}


SHOWN = {
    "levels": shown_levels, "forest": shown_forest, "joins": shown_joins, "arcs": shown_arcs,
    "spans": shown_spans, "unit": shown_unit, "rows": shown_rows}


def size_told(kind, thing):
    """The size of the order that a thing shows, if it is a drawing of the kind."""
    assert type(thing) is tuple
    if kind == "joins":
        return len(tree_members(thing))
    if kind in ("unit", "rows"):
        assert len(thing) == 2 and type(thing[1]) is tuple
        return len(thing[1])
    return len(thing)


def order_told(kind, thing):
    """The size of the order that a thing shows and the set of its pairs, or None if it is no drawing of the kind."""
    try:
        size = size_told(kind, thing)
        assert size <= 40
        stands = SHOWN[kind](size, thing)
        assert not any((e, e) in stands for e in range(size))
    except AssertionError:
        return None
    return size, stands


# The very drawings that point 13 tells.

def heights_told(facts):
    known = {}

    def height(e):
        if e not in known:
            known[e] = max([height(low) + 1 for low in range(facts.size) if facts.below(low, e)], default=0)
        return known[e]

    return [height(e) for e in range(facts.size)]


def forest_told(facts):
    parents = []
    for e in range(facts.size):
        under = [low for low in range(facts.size) if facts.below(low, e)]
        tops = [p for p in under if all(low == p or facts.below(low, p) for low in under)]
        parents.append(tops[0] if under else None)
    return tuple(parents)


def arcs_told(facts):
    tops = [tuple(facts.upper_covers(e)) for e in range(facts.size)]
    numbers = []
    for e in range(facts.size):
        if tops[e] and tops[e] not in numbers:
            numbers.append(tops[e])
    heads = [numbers.index(t) + 1 if t else len(numbers) + 1 for t in tops]
    told = []
    for e in range(facts.size):
        tails = {heads[low] for low in range(facts.size) if e in tops[low]} or {0}
        assert len(tails) == 1
        told.append((tails.pop(), heads[e]))
    return tuple(told)


def is_told_tree(tree, word=None):
    """True if a tree with elements has the form that point 13 tells, in a tree with this word."""
    if tree[0] == "one":
        return True
    if tree[0] == word or len(tree[1]) < 2:
        return False
    leasts = [min(tree_members(below)) for below in tree[1]]
    if tree[0] == "beside" and leasts != sorted(leasts):
        return False
    return all(is_told_tree(below, tree[0]) for below in tree[1])


def lower_sets(facts):
    """For each element the set of the elements below it."""
    return [frozenset(low for low in range(facts.size) if facts.below(low, e)) for e in range(facts.size)]


def spans_told(facts):
    lowers = lower_sets(facts)
    different = set(lowers)
    return tuple(
        (len([one for one in different if one < lowers[e]]), len([one for one in different if e not in one]) - 1)
        for e in range(facts.size))


def least_starts(facts, length):
    """The least starts of a drawing with this length, or None if there is none.

    The longest ways through all that one start says of another one, over more and more
    elements between: a way from a start back to itself that goes up has no drawing.
    """
    every = range(facts.size)
    far = [[length + 1 if facts.below(a, b) else -length if facts.apart(a, b) else None for b in every] for a in every]
    for e in every:
        far[e][e] = 0
    for middle in every:
        for a in every:
            if far[a][middle] is None:
                continue
            for b in every:
                if far[middle][b] is not None:
                    way = far[a][middle] + far[middle][b]
                    far[a][b] = way if far[a][b] is None else max(way, far[a][b])
    if any(far[e][e] > 0 for e in every):
        return None
    return tuple(max(far[a][e] for a in every if far[a][e] is not None) for e in every)


def unit_told(facts):
    """The least length and the least starts with it, for an order that has such a drawing."""
    length = 0
    while (starts := least_starts(facts, length)) is None:
        length += 1
    return length, starts


def is_told(kind, facts, drawing):
    """True if the drawing is the one that point 13 tells, for an order that has one."""
    if kind == "levels":
        return drawing == tuple(heights_told(facts))
    if kind == "forest":
        return drawing == forest_told(facts)
    if kind == "arcs":
        return drawing == arcs_told(facts)
    if kind == "spans":
        return drawing == spans_told(facts)
    if kind == "unit":
        return drawing == unit_told(facts)
    if kind == "rows":
        return True
    # Only one tree of this form shows an order, so its form and what it shows are enough.
    return drawing == ("beside", ()) if facts.size == 0 else is_told_tree(drawing)
