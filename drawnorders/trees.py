"""What a tree tells of the order that it shows, without looking at rows, lots or chains."""

from math import comb


def elements_in(tree):
    """The elements in a tree, in the order in which they stand in it."""
    word, inner = tree
    if word == "one":
        return [inner]
    return [element for part in inner for element in elements_in(part)]


def multiplied(numbers):
    """The product of all numbers of a list."""
    found = 1
    for number in numbers:
        found = found * number
    return found


def mixtures(sizes):
    """In how many ways rows of these sizes can be mixed into one row."""
    total = 0
    ways = []
    for size in sizes:
        total += size
        ways.append(comb(total, size))
    return multiplied(ways)


def tree_rows(tree):
    """The number of rows of the order that a tree shows."""
    word, inner = tree
    if word == "one":
        return 1
    found = multiplied([tree_rows(part) for part in inner])
    if word == "above":
        return found
    return found * mixtures([len(elements_in(part)) for part in inner])


def tree_lots(tree):
    """The number of lots of the order that a tree shows."""
    word, inner = tree
    if word == "one":
        return 2
    counts = [tree_lots(part) for part in inner]
    if word == "beside":
        return multiplied(counts)
    # A lot with an element of one tree has all elements of the trees before it, so besides
    # the empty lot each one ends in just one of the trees.
    return 1 + sum([count - 1 for count in counts])


def most_elements(tree, adding):
    """The most elements that trees can give which add up under one word, and under the other one do not."""
    word, inner = tree
    if word == "one":
        return 1
    counts = [most_elements(part, adding) for part in inner]
    if word == adding:
        return sum(counts)
    return max(counts, default=0)


def tree_width(tree):
    """The number of elements of a greatest antichain of the order that a tree shows."""
    return most_elements(tree, "beside")


def tree_height(tree):
    """The number of elements of a longest chain of the order that a tree shows."""
    return most_elements(tree, "above")


def numbered(tree, numbers):
    """A pair of the number of a tree's form, and its elements in the order in which the form has them.

    Trees have the same number if they are of the same form: if one of them is the other one
    renamed. The numbers of the forms known so far stand in a dict, which gets the new ones.
    """
    word, inner = tree
    if word == "one":
        return (0, [inner])
    parts = [numbered(part, numbers) for part in inner]
    if word == "beside":
        parts = sorted(parts, key=lambda part: part[0])
    form = (word, tuple([like for like, _ in parts]))
    number = numbers.setdefault(form, len(numbers) + 1)
    return (number, [element for _, members in parts for element in members])


def match_trees(one, other):
    """Some names by which the order of one tree renamed is that of the other one, a tuple, or None.

    The trees are such as `draw` returns. Of two of these, one shows the order of the other one
    renamed exactly if they are alike but for the names and the places in `beside`.
    """
    numbers = {}
    number, members = numbered(one, numbers)
    wanted, names = numbered(other, numbers)
    if number != wanted:
        return None
    named = dict(zip(members, names))
    return tuple([named[element] for element in range(len(members))])
