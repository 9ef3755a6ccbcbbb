"""Points 18 and 19, and the section drawnorders/rows.py of the interface."""

import itertools
import random
import time
import unittest

from drawnorders import errors
from drawnorders.errors import NoRow, OrderError
from drawnorders.kinds import draw
from drawnorders.order import Order
from drawnorders.rows import is_row, place_counts, row_at, row_count, row_number, rows, swaps
from drawnorders.trees import tree_rows

import plain
import plainrows
from plainthings import FAR


def cases():
    return plain.small_cases() + plain.five_cases()[::9] + plain.six_cases()[::60]


def some_row(rng, facts):
    """Some row: each time some element of those that have all elements below them ahead of them."""
    row = []
    while len(row) < facts.size:
        row.append(rng.choice([e for e in range(facts.size) if e not in row
                               and all(low in row for low, high in facts.stands if high == e)]))
    return tuple(row)


class RowsTest(unittest.TestCase):

    def check_no_row(self, order, number):
        with self.assertRaises(NoRow) as caught:
            row_at(order, number)
        self.assertIsInstance(caught.exception, OrderError)
        self.assertIsInstance(caught.exception, ValueError)
        for name in ("BadSize", "BadPair", "Ring", "BadText", "BadDrawing", "BadLots", "Missing"):
            self.assertNotIsInstance(caught.exception, getattr(errors, name))
        self.assertEqual(vars(caught.exception), {})

    def test_against_all_rows(self):
        for size, pairs in cases():
            order, facts = Order(size, pairs), plain.Facts(size, pairs)
            told = list(plainrows.listed_rows(facts))
            self.assertEqual(told, sorted(told))
            self.assertEqual(row_count(order), len(told))
            self.assertIs(type(row_count(order)), int)
            for number, row in enumerate(told):
                self.assertEqual(row_at(order, number), row)
                self.assertIs(type(row_at(order, number)), tuple)
                self.assertEqual(row_number(order, row), number)
            for number in (-1, -2, -len(told), -FAR, len(told), len(told) + 1, FAR):
                self.check_no_row(order, number)
            self.assertEqual(list(rows(order, 0)), told)
            self.assertEqual(order.pairs(), sorted(facts.stands))

    def test_rows_from_every_start(self):
        for size, pairs in plain.small_cases() + plain.five_cases()[::60] + plain.six_cases()[::700]:
            order = Order(size, pairs)
            told = list(plainrows.listed_rows(plain.Facts(size, pairs)))
            for start in range(len(told)):
                self.assertEqual(list(rows(order, start)), told[start:])
            for start in (len(told), len(told) + 1, len(told) + 100, FAR):
                self.assertEqual(list(rows(order, start)), [])

    def test_rows_are_yielded_one_by_one(self):
        for size, pairs in ((12, []), (12, [(3, 0)]), (4, [(1, 0)])):
            order = Order(size, pairs)
            first, second = rows(order, 0), rows(order, 1)
            self.assertIs(iter(first), first)
            self.assertEqual(next(first), row_at(order, 0))
            self.assertEqual(next(second), row_at(order, 1))
            self.assertEqual(next(first), row_at(order, 1))
            self.assertEqual(next(first), row_at(order, 2))
            self.assertEqual(next(second), row_at(order, 2))

    def test_is_row_against_all_lines(self):
        for size, pairs in cases():
            order, facts = Order(size, pairs), plain.Facts(size, pairs)
            told = set(plainrows.listed_rows(facts))
            for line in itertools.permutations(range(size)):
                self.assertIs(is_row(order, line), line in told)

    def test_is_row_of_many_elements(self):
        rng = random.Random(121)
        found = []
        for size, pairs in plain.random_cases(122, (7, 12, 25, 40), 25):
            order, facts = Order(size, pairs), plain.Facts(size, pairs)
            for turn in range(8):
                line = list(some_row(rng, facts))
                self.assertIs(is_row(order, tuple(line)), True)
                a, b = rng.sample(range(size), 2)
                if turn % 2:
                    b = a + 1 if a + 1 < size else a - 1
                line[a], line[b] = line[b], line[a]
                found.append(is_row(order, tuple(line)))
                self.assertIs(found[-1], plainrows.is_row(facts, line))
            self.assertIs(is_row(order, tuple(range(size))), plainrows.is_row(facts, list(range(size))))
        self.assertGreater(found.count(True), 50)
        self.assertGreater(found.count(False), 50)

    def test_told_by_hand(self):
        loose = Order(3, [])
        self.assertEqual(list(rows(loose, 0)), sorted(itertools.permutations(range(3))))
        two = Order(3, [(2, 0)])
        self.assertEqual(list(rows(two, 0)), [(1, 2, 0), (2, 0, 1), (2, 1, 0)])
        self.assertEqual((row_at(two, 1), row_number(two, (2, 1, 0)), row_count(two)), ((2, 0, 1), 2, 3))
        self.assertEqual(place_counts(two), [[0, 1, 2], [1, 1, 1], [2, 1, 0]])
        empty = Order(0, [])
        self.assertEqual((row_count(empty), row_at(empty, 0), row_number(empty, ()), list(rows(empty, 0))), (1, (), 0, [()]))
        self.assertEqual((list(rows(empty, 1)), place_counts(empty), is_row(empty, ())), ([], [], True))
        self.check_no_row(empty, 1)
        self.check_no_row(empty, -1)
        one = Order(1, [])
        self.assertEqual((row_count(one), row_at(one, 0), row_number(one, (0,)), place_counts(one)), (1, (0,), 0, [[1]]))

    def test_orders_with_very_many_rows(self):
        rng = random.Random(123)
        few = [(12, plain.random_pairs(rng, 12, 0.04)) for _ in range(6)]
        for size, pairs in [(12, []), (12, [(0, 1)]), (12, [(11, 0)]), (12, [(0, 1), (2, 3), (4, 5)])] + few:
            order, facts = Order(size, pairs), plain.Facts(size, pairs)
            start = time.time()
            many = row_count(order)
            self.assertLess(time.time() - start, 2)
            for number in [0, 1, many // 2, many - 2, many - 1] + [rng.randrange(many) for _ in range(5)]:
                start = time.time()
                row = row_at(order, number)
                self.assertTrue(plainrows.is_row(facts, row) and sorted(row) == list(range(size)))
                self.assertEqual(row_number(order, row), number)
                ahead = list(itertools.islice(rows(order, number), 50))
                self.assertEqual(ahead, [row_at(order, k) for k in range(number, min(many, number + 10))] + ahead[10:])
                self.assertEqual(ahead, sorted(ahead))
                self.assertLess(time.time() - start, 3)
            self.check_no_row(order, many)
            self.check_no_row(order, -1)
            start = time.time()
            counts = place_counts(order)
            self.assertLess(time.time() - start, 2)
            for line in counts + [list(column) for column in zip(*counts)]:
                self.assertEqual((len(line), sum(line)), (size, many))
        self.assertEqual(row_count(Order(12, [])), 479001600)
        self.assertEqual(row_count(Order(12, [(0, 1)])), 479001600 // 2)
        self.assertEqual(row_at(Order(12, []), 479001599), tuple(range(11, -1, -1)))
        self.assertEqual(place_counts(Order(12, [])), [[39916800] * 12] * 12)

    def test_chains_and_levels(self):
        chain = Order(12, [(e + 1, e) for e in range(11)])
        self.assertEqual((row_count(chain), row_at(chain, 0)), (1, tuple(range(11, -1, -1))))
        self.check_no_row(chain, 1)
        self.assertEqual(row_count(Order(12, [(a, b) for a in range(6) for b in range(6, 12)])), 720 * 720)
        self.assertEqual(row_count(Order(12, [(e, e + 2) for e in range(10)])), 924)

    def test_the_number_is_that_which_trees_tell(self):
        told = 0
        for size, pairs in plain.random_cases(124, (5, 8, 12), 25):
            order = Order(size, pairs)
            word, tree = draw(order, "joins")
            if word:
                told += 1
                self.assertEqual(row_count(order), tree_rows(tree))
        self.assertGreater(told, 10)

    def test_place_counts(self):
        for size, pairs in cases():
            order, facts = Order(size, pairs), plain.Facts(size, pairs)
            told = [[0] * size for _ in range(size)]
            for row in plainrows.listed_rows(facts):
                for at, e in enumerate(row):
                    told[e][at] += 1
            found = place_counts(order)
            self.assertEqual(found, told)
            self.assertTrue(type(found) is list and all(type(line) is list for line in found))
            self.assertEqual(len({id(line) for line in found}), size)
            for line in found:
                line.clear()
            found.append(0)
            self.assertEqual(place_counts(order), told)


class SwapsTest(unittest.TestCase):

    def check(self, facts, one, other):
        """The places lead from the one row to the other one, through rows, as few as there can be."""
        places = swaps(one, other)
        self.assertIs(type(places), list)
        line = list(one)
        for at in places:
            self.assertTrue(type(at) is int and 0 <= at < facts.size - 1)
            self.assertTrue(facts.apart(line[at], line[at + 1]))
            line[at], line[at + 1] = line[at + 1], line[at]
            self.assertTrue(plainrows.is_row(facts, line))
        self.assertEqual(tuple(line), other)
        far = [(a, b) for a, b in itertools.combinations(one, 2) if other.index(a) > other.index(b)]
        self.assertEqual(len(places), len(far))
        return len(places)

    def test_all_rows_of_small_orders(self):
        for size, pairs in plain.small_cases()[::3] + plain.five_cases()[::400]:
            facts = plain.Facts(size, pairs)
            told = list(plainrows.listed_rows(facts))
            for one in told[:12]:
                for other in told[-12:]:
                    self.check(facts, one, other)
                    self.check(facts, other, one)

    def test_rows_of_many_elements(self):
        rng = random.Random(125)
        for size, pairs in plain.random_cases(126, (7, 12, 40), 12):
            facts = plain.Facts(size, pairs)
            one, other = some_row(rng, facts), some_row(rng, facts)
            self.check(facts, one, other)
            self.assertEqual(swaps(one, one), [])
            self.assertEqual(swaps(one, tuple(list(one))), [])

    def test_told_by_hand(self):
        self.assertEqual(swaps((), ()), [])
        self.assertEqual(swaps((0,), (0,)), [])
        self.assertEqual(swaps((1, 0), (0, 1)), [0])
        self.assertEqual(swaps((0, 1, 2), (0, 2, 1)), [1])
        self.assertIn(swaps((0, 1, 2), (2, 1, 0)), ([0, 1, 0], [1, 0, 1]))
        forty = tuple(range(40))
        self.assertEqual(self.check(plain.Facts(40, []), forty, forty[::-1]), 780)

    def test_new_lists(self):
        found = swaps((0, 1, 2), (2, 1, 0))
        many = len(found)
        found.clear()
        self.assertEqual(len(swaps((0, 1, 2), (2, 1, 0))), many)


if __name__ == "__main__":
    unittest.main()
