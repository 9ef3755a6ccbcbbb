"""Trees of all forms, point 10, for the tests."""

import random

import plain

WORDS = ("beside", "above")
EMPTY = [("beside", ()), ("above", ()), ("beside", (("above", ()), ("beside", (("beside", ()),)))), ("above", (("above", ()),))]


def loose_tree(rng, members, deep):
    """Some tree of any form with these elements, some of its trees without elements or alone in a tree."""
    if rng.random() < 0.2 and deep < 8:
        return (rng.choice(WORDS), (loose_tree(rng, members, deep + 1),))
    if not members:
        return rng.choice(EMPTY)
    if len(members) == 1 and rng.random() < 0.8:
        return ("one", members[0])
    parts = [[] for _ in range(rng.randrange(1, 4))]
    for e in members:
        rng.choice(parts).append(e)
    if deep > 20:
        return (rng.choice(WORDS), tuple(("one", e) for e in members))
    return (rng.choice(WORDS), tuple(loose_tree(rng, part, deep + 1) for part in parts))


def loose_trees(seed, sizes, many):
    rng = random.Random(seed)
    return [loose_tree(rng, plain.shuffled_names(rng, size), 0) for size in sizes for _ in range(many)]


def depth(thing):
    """How deep a thing is nested, point 4."""
    return 1 + max([depth(item) for item in thing], default=0) if isinstance(thing, tuple) else 0


def deep_numbers(steps):
    """A tree of one element at first, then for each step a word and a tree of no or one element ahead or behind.

    Returned with its numbers of rows, of lots, the width and the height, step by step.
    """
    tree, size, rows, lots, width, height = ("one", 0), 1, 1, 2, 1, 1
    for word, more, ahead in steps:
        other = () if more == 0 else (("one", size),) if more == 1 else (("beside", ()),)
        tree = (word, other + (tree,) if ahead else (tree,) + other)
        if more == 1:
            size += 1
            if word == "beside":
                rows, lots, width = rows * size, lots * 2, width + 1
            else:
                lots, height = lots + 1, height + 1
    return tree, size, rows, lots, width, height
