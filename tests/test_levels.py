"""Points 7 (chains) and 14, and heights, levels and longest_chain of drawnorders/levels.py."""

import random
import unittest

from drawnorders.levels import draw_levels, heights, levels, longest_chain
from drawnorders.order import Order

import plain


class LevelsTest(unittest.TestCase):

    def check(self, size, pairs):
        order = Order(size, pairs)
        facts = plain.Facts(size, pairs)
        told = plain.heights_told(facts)
        self.assertEqual(heights(order), told)
        most = max(told, default=-1) + 1
        self.assertEqual(levels(order), [[e for e in range(size) if told[e] == k] for k in range(most)])
        chain = longest_chain(order)
        self.assertIs(type(chain), list)
        self.assertEqual(len(chain), most)
        self.assertEqual(len(set(chain)), most)
        self.assertTrue(all(0 <= e < size for e in chain))
        self.assertTrue(all(facts.below(low, high) for low, high in zip(chain, chain[1:])))
        self.assertEqual(order.pairs(), sorted(facts.stands))

    def test_no_element(self):
        order = Order(0, [])
        self.assertEqual((heights(order), levels(order), longest_chain(order)), ([], [], []))

    def test_one_element(self):
        order = Order(1, [])
        self.assertEqual((heights(order), levels(order), longest_chain(order)), ([0], [[0]], [0]))

    def test_no_pairs(self):
        for size in (2, 5, 40):
            self.check(size, [])
            self.assertEqual(levels(Order(size, [])), [list(range(size))])

    def test_a_chain_of_forty(self):
        names = plain.shuffled_names(random.Random(21), 40)
        steps = list(zip(names, names[1:]))
        self.check(40, steps)
        self.assertEqual(longest_chain(Order(40, steps)), names)
        self.assertEqual(levels(Order(40, steps)), [[e] for e in names])

    def test_wide_orders_of_forty(self):
        self.check(40, [(low, high) for low in range(20) for high in range(20, 40)])
        self.check(40, [(39, e) for e in range(39)])
        self.check(40, [(e, e - 1) for e in range(1, 40, 2)])

    def test_the_first_steps_may_lead_astray(self):
        # A longest chain may avoid each element that seems best from the top or from the bottom.
        self.check(7, [(0, 6), (1, 6), (1, 2), (2, 3), (3, 6), (4, 5), (5, 6)])
        self.check(6, [(5, 4), (4, 0), (3, 0), (5, 1), (2, 1)])

    def test_small_orders(self):
        for size, pairs in plain.small_cases() + plain.five_cases()[::3] + plain.six_cases()[::3]:
            self.check(size, pairs)

    def test_larger_orders(self):
        for size, pairs in plain.random_cases(22, (7, 9, 15, 30, 40), 12):
            self.check(size, pairs)

    def test_lists_that_are_returned_may_be_changed(self):
        order = Order(4, [(0, 1), (1, 2)])
        for ask in (heights, levels, longest_chain):
            ask(order).clear()
            self.assertEqual(len(ask(order)), {heights: 4, levels: 3, longest_chain: 3}[ask])
        levels(order)[0].append(7)
        self.assertEqual(levels(order), [[0, 3], [1], [2]])
        self.assertEqual(heights(order), [0, 1, 2, 0])
        self.assertEqual(draw_levels(order), (False, draw_levels(order)[1]))
        self.assertEqual(order.pairs(), [(0, 1), (0, 2), (1, 2)])


if __name__ == "__main__":
    unittest.main()
