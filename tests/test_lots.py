"""Point 20, and the section drawnorders/lots.py of the interface."""

import copy
import itertools
import random
import time
import unittest

from drawnorders import errors
from drawnorders.errors import BadLots, OrderError
from drawnorders.kinds import draw
from drawnorders.lots import closed_lot, is_lot, lot_count, lots, order_of_lots
from drawnorders.order import Order
from drawnorders.trees import tree_lots

import plain
import plainrows


def cases():
    return plain.small_cases() + plain.five_cases()[::9] + plain.six_cases()[::40]


class LotsTest(unittest.TestCase):

    def test_against_all_sets(self):
        for size, pairs in cases():
            order, facts = Order(size, pairs), plain.Facts(size, pairs)
            told = plainrows.listed_lots(facts)
            found = lots(order)
            self.assertEqual(found, told)
            self.assertTrue(type(found) is list and all(type(lot) is tuple for lot in found))
            self.assertEqual(lot_count(order), len(told))
            found.clear()
            self.assertEqual(lots(order), told)
            self.assertEqual(order.pairs(), sorted(facts.stands))

    def test_is_lot_and_closed_lot_against_all_sets(self):
        rng = random.Random(131)
        for size, pairs in cases():
            order, facts = Order(size, pairs), plain.Facts(size, pairs)
            told = plainrows.listed_lots(facts)
            for many in range(size + 1):
                for some in itertools.combinations(range(size), many):
                    members = rng.sample(some, many)
                    before = list(members)
                    self.assertIs(is_lot(order, members), some in told)
                    # The first one in the list of all lots that has them all is the least one.
                    self.assertEqual(closed_lot(order, members), [lot for lot in told if set(some) <= set(lot)][0])
                    self.assertIs(type(closed_lot(order, members)), tuple)
                    self.assertEqual(members, before)

    def test_told_by_hand(self):
        order = Order(4, [(2, 0), (2, 3)])
        self.assertEqual(lots(order), [(), (1,), (2,), (0, 2), (1, 2), (2, 3), (0, 1, 2), (0, 2, 3), (1, 2, 3), (0, 1, 2, 3)])
        self.assertEqual(lot_count(order), 10)
        self.assertIs(is_lot(order, [3, 2]), True)
        self.assertIs(is_lot(order, [3, 1]), False)
        self.assertEqual(closed_lot(order, [3, 1]), (1, 2, 3))
        self.assertEqual(closed_lot(order, [3, 1, 3]), (1, 2, 3))
        self.assertEqual(closed_lot(order, []), ())
        self.assertIs(is_lot(order, []), True)
        self.assertEqual((lots(Order(0, [])), lot_count(Order(0, []))), ([()], 1))
        self.assertEqual((lots(Order(1, [])), lot_count(Order(1, []))), ([(), (0,)], 2))

    def test_twelve_elements(self):
        start = time.time()
        loose = lots(Order(12, []))
        self.assertEqual(lot_count(Order(12, [])), 4096)
        self.assertLess(time.time() - start, 2)
        self.assertEqual(loose, [some for many in range(13) for some in itertools.combinations(range(12), many)])
        self.assertEqual(lots(Order(12, [(e + 1, e) for e in range(11)])), [tuple(range(12 - k, 12)) for k in range(13)])
        rng = random.Random(132)
        for turn in range(6):
            pairs = plain.random_pairs(rng, 12, rng.choice((0.05, 0.1, 0.3)))
            self.assertEqual(lots(Order(12, pairs)), plainrows.listed_lots(plain.Facts(12, pairs)))

    def test_the_number_is_that_which_trees_tell(self):
        told = 0
        for size, pairs in plain.random_cases(133, (5, 8, 12), 25):
            order = Order(size, pairs)
            word, tree = draw(order, "joins")
            if word:
                told += 1
                self.assertEqual(lot_count(order), tree_lots(tree))
        self.assertGreater(told, 10)

    def test_lots_of_many_elements(self):
        rng = random.Random(134)
        found = []
        for size, pairs in plain.random_cases(135, (13, 25, 40), 30):
            order, facts = Order(size, pairs), plain.Facts(size, pairs)
            for turn in range(6):
                members = rng.sample(range(size), rng.randrange(size + 1))
                whole = sorted(set(members) | {low for low, high in facts.stands if high in members})
                self.assertEqual(closed_lot(order, members), tuple(whole))
                self.assertIs(is_lot(order, rng.sample(whole, len(whole))), True)
                found.append(is_lot(order, members))
                self.assertIs(found[-1], sorted(members) == whole)
                if whole:
                    less = [e for e in whole if e != rng.choice(whole)]
                    self.assertIs(is_lot(order, less), plainrows.is_lot(facts, less))
        self.assertGreater(found.count(True), 20)
        self.assertGreater(found.count(False), 20)


class OrderOfLotsTest(unittest.TestCase):

    def check(self, size, given):
        """The order is the right one, or BadLots just where there is none. Returns True if there is one."""
        before = copy.deepcopy(given)
        word = plainrows.are_lots(size, given)
        if word:
            order = order_of_lots(size, given)
            self.assertIs(type(order), Order)
            self.assertEqual((order.size, order.pairs()), (size, plainrows.read_back(size, given)))
        else:
            self.check_bad(size, given)
        self.assertEqual(given, before)
        return word

    def check_bad(self, size, given):
        with self.assertRaises(BadLots) as caught:
            order_of_lots(size, given)
        self.assertIsInstance(caught.exception, OrderError)
        self.assertIsInstance(caught.exception, ValueError)
        for name in ("BadSize", "BadPair", "Ring", "BadText", "BadDrawing", "NoRow", "Missing"):
            self.assertNotIsInstance(caught.exception, getattr(errors, name))
        self.assertEqual(vars(caught.exception), {})

    def shuffled(self, rng, told):
        """The sets in some order, and the elements of each one in some order."""
        return [tuple(rng.sample(lot, len(lot))) for lot in rng.sample(told, len(told))]

    def test_lots_of_orders(self):
        rng = random.Random(136)
        for size, pairs in cases():
            facts = plain.Facts(size, pairs)
            told = plainrows.listed_lots(facts)
            for given in (told, told[::-1], self.shuffled(rng, told)):
                self.assertEqual(order_of_lots(size, given).pairs(), sorted(facts.stands))
                self.assertTrue(self.check(size, given))

    def test_lots_of_orders_changed(self):
        rng = random.Random(137)
        words = []
        for size, pairs in cases()[::3]:
            told = self.shuffled(rng, plainrows.listed_lots(plain.Facts(size, pairs)))
            at = rng.randrange(len(told))
            self.check_bad(size, told + [told[at]])
            self.check_bad(size, told + [told[at][::-1]])
            self.check_bad(size, told[:at] + [told[at]] + told[at:])
            # Put in twice in place of another one, so that there are as many as before.
            if len(told) > 1:
                self.assertIs(self.check(size, told[:-1] + told[:1]), False)
            words.append(self.check(size, told[:at] + told[at + 1:]))
            other = tuple(rng.sample(range(size), rng.randrange(size + 1)))
            words.append(self.check(size, told[:at] + [other] + told[at + 1:]))
            words.append(self.check(size, told + [other]))
            words.append(self.check(size + 1, told))
            words.append(self.check(size + 1, told + [tuple(range(size + 1))]))
        self.assertGreater(words.count(True), 20)
        self.assertGreater(words.count(False), 100)

    def test_all_lists_of_sets(self):
        """All sets of sets for the sizes 0 to 3, in each order for 0 to 2, and one of them twice."""
        rng = random.Random(138)
        for size in range(4):
            sets = [some for many in range(size + 1) for some in itertools.combinations(range(size), many)]
            for many in range(len(sets) + 1):
                for given in itertools.combinations(sets, many):
                    for row in itertools.permutations(given) if size < 3 else [given]:
                        self.check(size, list(row))
                        self.check(size, self.shuffled(rng, list(row)))
                        for twice in row:
                            self.check_bad(size, list(row) + [twice])

    def test_drawn_lists_of_sets(self):
        rng = random.Random(139)
        words = []
        sets = [some for many in range(5) for some in itertools.combinations(range(4), many)]
        for turn in range(3000):
            given = [some for some in sets if len(some) in (0, 4) or rng.random() < rng.choice((0.2, 0.5, 0.8))]
            words.append(self.check(4, self.shuffled(rng, given)))
            if turn % 3 == 0:
                self.check(4, rng.sample(given, rng.randrange(len(given) + 1)))
            if turn % 3 == 1:
                # With all unions and intersections, so that only elements that are never told apart are wrong.
                closed = self.closed([frozenset(some) for some in rng.sample(sets, 4)] + [frozenset(), frozenset(range(4))])
                words.append(self.check(4, self.shuffled(rng, [tuple(some) for some in closed])))
        self.assertGreater(words.count(True), 30)
        self.assertGreater(words.count(False), 100)

    def closed(self, some):
        found = set(some)
        while True:
            more = {a | b for a in found for b in found} | {a & b for a in found for b in found}
            if more == found:
                return sorted(map(sorted, found))
            found = more

    def test_no_sets(self):
        for size in range(13):
            self.check_bad(size, [])
        self.assertEqual(order_of_lots(0, [()]).size, 0)
        self.check_bad(0, [(), ()])
        self.check_bad(1, [()])
        self.check_bad(1, [(0,)])
        self.assertEqual(order_of_lots(1, [(0,), ()]).pairs(), [])

    def test_sizes_to_twelve(self):
        rng = random.Random(140)
        words = []
        for size in (7, 8, 9, 10, 11, 12):
            for turn in range(8):
                pairs = plain.random_pairs(rng, size, rng.choice((0.3, 0.4, 0.6, 0.9)))
                told = self.shuffled(rng, plainrows.listed_lots(plain.Facts(size, pairs)))
                if len(told) < 300:
                    self.assertTrue(self.check(size, told))
                    at = rng.randrange(len(told))
                    words.append(self.check(size, told[:at] + told[at + 1:]))
                    self.check_bad(size, told + [told[at][::-1]])
                    self.check(size, told + [tuple(rng.sample(range(size), rng.randrange(size)))])
        self.assertGreater(words.count(False), 5)

    def test_very_many_sets(self):
        rng = random.Random(141)
        told = [some for many in range(13) for some in itertools.combinations(range(12), many)]
        start = time.time()
        self.assertEqual(order_of_lots(12, self.shuffled(rng, told)).pairs(), [])
        # Each element still has a set without it, so it would be the order without pairs, which has one more.
        self.check_bad(12, [some for some in told if some != (3, 5)])
        self.check_bad(12, told + [(3, 5)])
        self.check_bad(12, [some for some in told if some != ()])
        self.assertLess(time.time() - start, 6)


if __name__ == "__main__":
    unittest.main()
