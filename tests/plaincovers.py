"""Chains, antichains and covers for the tests, straight from points 7 and 21 to 23."""

import itertools
import random

import plain


def is_chain(facts, members):
    return all(facts.below(a, b) for a, b in zip(members, members[1:]))


def is_antichain(facts, members):
    return all(facts.apart(a, b) for a, b in itertools.combinations(members, 2))


def have_each_once(facts, parts):
    """True if lists, none of them empty, have each element exactly once."""
    return all(len(some) > 0 for some in parts) and sorted(e for some in parts for e in some) == list(range(facts.size))


def shows_width(facts, chains, members):
    """Point 21."""
    fits = have_each_once(facts, chains) and all(is_chain(facts, chain) for chain in chains)
    return fits and is_antichain(facts, members) and len(members) == len(chains)


def shows_cover(facts, count, few, parts, few_fit, parts_fit):
    """Point 22, for lists of the one sort and lists of the other sort."""
    told = [e for some in few for e in some]
    fits = len(few) <= count and len(told) == len(set(told)) and all(few_fit(facts, some) for some in few)
    fits = fits and have_each_once(facts, parts) and all(parts_fit(facts, some) for some in parts)
    return fits and len(told) == sum(min(count, len(some)) for some in parts)


def shows_chain_cover(facts, count, chains, antichains):
    return shows_cover(facts, count, chains, antichains, is_chain, is_antichain)


def shows_antichain_cover(facts, count, antichains, chains):
    return shows_cover(facts, count, antichains, chains, is_antichain, is_chain)


def all_antichains(facts):
    return [some for many in range(facts.size + 1) for some in itertools.combinations(range(facts.size), many)
            if is_antichain(facts, some)]


def is_lower(facts, one, other):
    """Point 21: each element of the one antichain is the same as or below some element of the other one."""
    return all(any(a == b or facts.below(a, b) for b in other) for a in one)


def most_covered(facts, word):
    """How many elements 0, 1, .., size chains, or antichains, cover, found by going through all sets.

    So many chains cover a set exactly if it has no antichain with more elements, and the same with both exchanged.
    """
    every = range(facts.size)
    blocks = []
    for some in (some for many in range(facts.size + 1) for some in itertools.combinations(every, many)):
        if word == "chains" and is_antichain(facts, some):
            blocks.append(set(some))
        elif word == "antichains" and all(not facts.apart(a, b) for a, b in itertools.combinations(some, 2)):
            blocks.append(set(some))
    most = [0] * (facts.size + 1)
    for many in range(facts.size + 1):
        for some in itertools.combinations(every, many):
            need = max(len(block) for block in blocks if block <= set(some))
            most[need] = max(most[need], many)
    return [max(most[:count + 1]) for count in range(facts.size + 1)]


def width_of(facts, members):
    """The greatest number of elements of an antichain among the members: as many as there are, less as
    many as can be given another one above them, each one to one only.
    """
    given = {}

    def place(low, tried):
        for high in members:
            if facts.below(low, high) and high not in tried:
                tried.add(high)
                if high not in given or place(given[high], tried):
                    given[high] = low
                    return True
        return False

    return len(members) - sum(place(low, set()) for low in members)


def widest_ends(facts):
    """The lowest and the highest antichain with as many elements as the width: the lowest and the highest
    ones of the elements that stand in any of these antichains.
    """
    every = list(range(facts.size))
    most = width_of(facts, every)
    some = [e for e in every if width_of(facts, [other for other in every if facts.apart(e, other)]) == most - 1]
    low = [e for e in some if not any(facts.below(other, e) for other in some)]
    high = [e for e in some if not any(facts.below(e, other) for other in some)]
    return low, high


def changed_lists(rng, size, parts):
    """Lists of elements with a small change: a list left out, doubled, cut, joined, emptied, or an element moved."""
    found = [list(some) for some in parts]
    way = rng.randrange(9)
    if way == 0 or not found:
        found.insert(rng.randrange(len(found) + 1), rng.choice(([], [rng.randrange(size)] if size else [])))
        return found
    at = rng.randrange(len(found))
    if way == 1:
        found.pop(at)
    elif way == 2:
        found.append(list(found[at]))
    elif way == 3:
        cut = rng.randrange(len(found[at]) + 1)
        found[at:at + 1] = [found[at][:cut], found[at][cut:]]
    elif way == 4:
        found[at] = found[at] + found.pop(rng.randrange(len(found))) if len(found) > 1 and at < len(found) - 1 else found[at][::-1]
    elif way == 5 and found[at]:
        e = found[at].pop(rng.randrange(len(found[at])))
        to = rng.choice(found)
        to.insert(rng.randrange(len(to) + 1), e)
    elif way == 6 and found[at]:
        found[at][rng.randrange(len(found[at]))] = rng.randrange(size)
    elif way == 7:
        rng.shuffle(found[at])
    else:
        rng.shuffle(found)
    return found


def drawn_lists(rng, size):
    """Some lists of elements, in which each element stands once or nearly so, or any ones."""
    if rng.random() < 0.3 or size == 0:
        return [[rng.randrange(size) for _ in range(rng.randrange(4))] if size else [] for _ in range(rng.randrange(4))]
    found = [[] for _ in range(rng.randrange(1, size + 1))]
    for e in plain.shuffled_names(rng, size):
        rng.choice(found).append(e)
    return found if rng.random() < 0.2 else [some for some in found if some]


def wide_cases(seed, sizes, many):
    """Orders of many elements of different sorts: drawn ones, products, levels, chains side by side."""
    rng = random.Random(seed)
    cases = plain.random_cases(seed, sizes, many)
    for size in sizes:
        names = plain.shuffled_names(rng, size)
        wide = rng.randrange(2, 7)
        cases.append((size, [(names[a], names[b]) for a in range(size) for b in range(size) if a // wide < b // wide]))
        cases.append((size, [(names[a], names[a + wide]) for a in range(size - wide)]))
        cases.append((size, [(names[a], names[b]) for a in range(size // 2) for b in range(size // 2, size) if rng.random() < 0.15]))
        spots = [(rng.randrange(size), rng.randrange(size)) for _ in range(size)]
        cases.append((size, [(a, b) for a in range(size) for b in range(size)
                             if spots[a] != spots[b] and spots[a][0] <= spots[b][0] and spots[a][1] <= spots[b][1]]))
        cases.append((size, [(a, b) for a in range(size) for b in range(size) if a != b and (b + 1) % (a + 1) == 0]))
    return cases
