"""Points 2, 12 and 13 over all kinds, and the section drawnorders/kinds.py of the interface."""

import unittest

from drawnorders.drawings import KINDS, order_of
from drawnorders.forest import draw_forest
from drawnorders.joins import draw_joins
from drawnorders.kinds import draw, kinds_of
from drawnorders.levels import draw_levels
from drawnorders.netarcs import draw_arcs
from drawnorders.order import Order, same
from drawnorders.spans import draw_spans
from drawnorders.tworows import draw_rows
from drawnorders.unit import draw_unit

import plain

DRAW = {
    "levels": draw_levels, "forest": draw_forest, "joins": draw_joins, "arcs": draw_arcs,
    "spans": draw_spans, "unit": draw_unit, "rows": draw_rows}


class KindsTest(unittest.TestCase):

    def check(self, size, pairs, papers=True):
        order = Order(size, pairs)
        facts = plain.Facts(size, pairs)
        words = {}
        for kind in KINDS:
            answer = draw(order, kind)
            self.assertEqual(answer, DRAW[kind](Order(size, pairs)))
            self.assertIs(type(answer), tuple)
            word, paper = answer
            words[kind] = word
            if papers:
                self.assertIs(word, not plain.some_paper(kind, facts))
            if word:
                self.assertEqual(plain.order_told(kind, paper), (size, facts.stands))
                self.assertTrue(same(order_of(kind, paper), order))
            else:
                self.assertTrue(plain.is_paper(kind, facts, paper))
        found = kinds_of(order)
        self.assertIs(type(found), list)
        self.assertEqual(found, [kind for kind in KINDS if words[kind]])
        found.clear()
        self.assertEqual(len(kinds_of(order)), len([kind for kind in KINDS if words[kind]]))
        self.assertEqual(order.pairs(), sorted(facts.stands))

    def test_small_orders(self):
        for size, pairs in plain.small_cases() + plain.five_cases()[::11] + plain.six_cases()[::23]:
            self.check(size, pairs)

    def test_larger_orders(self):
        for size, pairs in plain.random_cases(91, (8, 20, 40), 8):
            self.check(size, pairs, size == 8)

    def test_told_by_hand(self):
        self.assertEqual(kinds_of(Order(0, [])), list(KINDS))
        self.assertEqual(kinds_of(Order(40, [])), list(KINDS))
        self.assertEqual(kinds_of(Order(40, [(e, e + 1) for e in range(39)])), list(KINDS))
        # A chain of two beside one: no levels. The letter N: neither levels, forest, joins nor arcs.
        self.assertEqual(kinds_of(Order(3, [(0, 1)])), ["forest", "joins", "arcs", "spans", "unit", "rows"])
        self.assertEqual(kinds_of(Order(4, [(0, 2), (1, 2), (1, 3)])), ["spans", "unit", "rows"])
        self.assertEqual(kinds_of(Order(4, [(0, 1), (1, 2)])), ["forest", "joins", "arcs", "spans", "rows"])
        self.assertEqual(kinds_of(Order(4, [(0, 1), (2, 3)])), ["forest", "joins", "arcs", "rows"])
        crown = Order(6, [(low, 3 + high) for low in range(3) for high in range(3) if low != high])
        self.assertEqual(kinds_of(crown), [])


if __name__ == "__main__":
    unittest.main()
