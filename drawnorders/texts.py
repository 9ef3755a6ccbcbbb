"""Orders as lines of text."""

from drawnorders.errors import BadText
from drawnorders.order import MOST, Order

DIGITS = "0123456789"


def write_order(order):
    """The lines of an order: its size, and each pair of an element and one that covers it."""
    return [f"order {order.size}"] + [f"{low} < {high}" for low, high in order.covers()]


def number_in(word):
    """The number that a word of one or two digits writes, or None."""
    if len(word) not in (1, 2) or not all([sign in DIGITS for sign in word]):
        return None
    if len(word) == 2 and word[0] == "0":
        return None
    return int(word)


def size_in(line):
    """The size that a line tells, or None."""
    words = line.split(" ")
    if len(words) != 2 or words[0] != "order":
        return None
    size = number_in(words[1])
    return None if size is None or size > MOST else size


def pair_in(line, size):
    """The pair of elements of an order of a size that a line tells, or None."""
    words = line.split(" ")
    if len(words) != 3 or words[1] != "<":
        return None
    low, high = number_in(words[0]), number_in(words[2])
    if low is None or high is None or low >= size or high >= size:
        return None
    return (low, high)


def makes_ring(over, low, high):
    """True if a pair more makes a ring, where masks tell the elements above each element."""
    return low == high or over[high] >> low & 1 == 1


def with_pair(over, low, high):
    """The masks of the elements above each element, with a pair more."""
    more = over[high] | 1 << high
    return [mask | more if at == low or mask >> low & 1 else mask for at, mask in enumerate(over)]


def read_order(lines):
    """The order of some lines; raises BadText with the index of the first one that has no place there."""
    size = size_in(lines[0]) if lines else None
    if size is None:
        raise BadText(0)
    over = [0] * size
    pairs = []
    for at, line in enumerate(lines[1:], start=1):
        pair = pair_in(line, size)
        if pair is None or makes_ring(over, *pair):
            raise BadText(at)
        over = with_pair(over, *pair)
        pairs.append(pair)
    return Order(size, pairs)
