"""Points 3, 5, 6 and 7 (covers), and the section drawnorders/order.py of the interface."""

import itertools
import random
import unittest

from drawnorders.errors import BadPair, BadSize, OrderError, Ring
from drawnorders.order import Order, same

import plain

MANY_DIGITS = 10 ** 6000


class SizesTest(unittest.TestCase):

    def test_sizes_that_are_refused(self):
        for size in (-1, 41, -2, 42, -40, 1000, -10 ** 30, 10 ** 30, MANY_DIGITS, -MANY_DIGITS):
            with self.assertRaises(BadSize) as caught:
                Order(size, [])
            self.assertTrue(caught.exception.wanted == size)

    def test_sizes_that_are_taken(self):
        for size in range(41):
            order = Order(size, [])
            self.assertEqual(order.size, size)
            self.assertEqual(order.pairs(), [])
            self.assertEqual(order.covers(), [])
            self.assertEqual(order.lowest(), list(range(size)))
            self.assertEqual(order.highest(), list(range(size)))

    def test_the_size_stays(self):
        order = Order(2, [])
        with self.assertRaises(AttributeError):
            order.size = 3
        self.assertEqual(order.size, 2)


class BadPairsTest(unittest.TestCase):

    def check(self, size, pairs, index):
        given = list(pairs)
        with self.assertRaises(BadPair) as caught:
            Order(size, pairs)
        self.assertEqual(caught.exception.index, index)
        self.assertEqual(pairs, given)

    def test_the_index_of_the_first_one(self):
        self.check(0, [(0, 0)], 0)
        self.check(1, [(0, 1)], 0)
        self.check(3, [(0, 1), (1, 3), (0, 3)], 1)
        self.check(3, [(0, 1), (1, 2), (-1, 2), (3, 3)], 2)
        self.check(3, [(0, 1), (0, 1), (2, -1)], 2)
        self.check(3, [(3, 0)], 0)
        self.check(40, [(0, 39), (40, 0)], 1)
        self.check(40, [(39, 0), (-40, 0)], 1)

    def test_integers_of_many_digits(self):
        for far in (MANY_DIGITS, -MANY_DIGITS, 2 ** 64, -2 ** 64):
            self.check(3, [(0, 1), (far, 1)], 1)
            self.check(3, [(0, 1), (1, 2), (1, far)], 2)
            self.check(3, [(far, far)], 0)


class RingsTest(unittest.TestCase):

    def check(self, size, pairs):
        with self.assertRaises(Ring) as caught:
            Order(size, pairs)
        ring = caught.exception.ring
        self.assertIs(type(ring), list)
        self.assertTrue(len(ring) >= 1)
        for at, element in enumerate(ring):
            self.assertIn((element, ring[(at + 1) % len(ring)]), pairs)

    def test_an_element_below_itself(self):
        self.check(1, [(0, 0)])
        self.check(40, [(38, 39), (39, 39)])

    def test_longer_rings(self):
        for size in (2, 3, 7, 40):
            self.check(size, [(e, (e + 1) % size) for e in range(size)])
            self.check(size, [((e + 1) % size, e) for e in range(size)])

    def test_rings_with_ways_into_them_and_out_of_them(self):
        ways = [(0, 1), (1, 2), (2, 5), (5, 3), (3, 2), (3, 6), (6, 7), (0, 7)]
        for names in list(itertools.permutations(range(8)))[::97]:
            self.check(8, [(names[low], names[high]) for low, high in ways])

    def test_a_ring_in_each_list_of_pairs_that_has_one(self):
        for size in (2, 3):
            spots = list(itertools.product(range(size), repeat=2))
            self.check_all_choices(size, spots)
        self.check_all_choices(4, [(a, b) for a in range(4) for b in range(4) if a != b])

    def check_all_choices(self, size, spots):
        for choice in itertools.product((False, True), repeat=len(spots)):
            pairs = [spot for spot, yes in zip(spots, choice) if yes]
            stands = plain.closed(size, pairs)
            if any(low == high for low, high in stands):
                self.check(size, pairs)
            else:
                self.assertEqual(Order(size, pairs).pairs(), sorted(stands))

    def test_rings_in_large_orders(self):
        rng = random.Random(1)
        for turn in range(100):
            size = rng.randrange(10, 41)
            pairs = plain.random_pairs(rng, size, 0.1)
            low, high = rng.choice(sorted(plain.closed(size, pairs)) or [(0, 0)])
            pairs.insert(rng.randrange(len(pairs) + 1), (high, low))
            self.check(size, pairs)


class SeveralFaultsTest(unittest.TestCase):

    def test_the_size_comes_first(self):
        for size in (-1, 41):
            for pairs in ([(0, 99)], [(0, 0)], [(0, 1), (1, 0), (-1, 0)]):
                with self.assertRaises(BadSize):
                    Order(size, pairs)

    def test_a_bad_pair_comes_before_a_ring(self):
        with self.assertRaises(BadPair) as caught:
            Order(3, [(0, 0), (0, 1), (1, 0), (0, 3), (4, 0)])
        self.assertEqual(caught.exception.index, 3)

    def test_each_is_an_order_error(self):
        for size, pairs in ((41, []), (1, [(0, 1)]), (1, [(0, 0)])):
            with self.assertRaises(OrderError):
                Order(size, pairs)


class AnswersTest(unittest.TestCase):

    def check(self, size, pairs):
        order = Order(size, pairs)
        facts = plain.Facts(size, pairs)
        every = range(size)
        covering = [facts.upper_covers(e) for e in every]
        self.assertEqual(order.size, size)
        self.assertEqual(order.pairs(), sorted(facts.stands))
        self.assertEqual(list(order), sorted(facts.stands))
        self.assertEqual(order.covers(), [(e, top) for e in every for top in covering[e]])
        for e in every:
            self.assertEqual(order.above(e), [x for x in every if facts.below(e, x)])
            self.assertEqual(order.under(e), [x for x in every if facts.below(x, e)])
            self.assertEqual(order.upper_covers(e), covering[e])
            for other in every:
                self.assertIs(order.below(e, other), facts.below(e, other))
                self.assertIs(order.apart(e, other), facts.apart(e, other))
                self.assertIs((e, other) in order, facts.below(e, other))
        self.assertEqual(order.lowest(), [e for e in every if not any(facts.below(x, e) for x in every)])
        self.assertEqual(order.highest(), [e for e in every if not any(facts.below(e, x) for x in every)])

    def test_small_orders(self):
        for size, pairs in plain.small_cases() + plain.five_cases()[::5] + plain.six_cases()[::11]:
            self.check(size, pairs)

    def test_small_orders_of_their_covers(self):
        for size, pairs in plain.small_cases() + plain.five_cases()[::7]:
            facts = plain.Facts(size, pairs)
            self.check(size, [(low, high) for low, high in pairs if facts.covers(low, high)])

    def test_larger_orders(self):
        for size, pairs in plain.random_cases(2, (7, 10, 20, 39, 40), 6):
            self.check(size, pairs)

    def test_pairs_that_stand_twice(self):
        self.check(3, [(0, 1), (0, 1), (1, 2), (0, 1), (0, 2), (1, 2)])

    def test_a_chain_of_forty(self):
        rng = random.Random(3)
        names = plain.shuffled_names(rng, 40)
        steps = list(zip(names, names[1:]))
        rng.shuffle(steps)
        self.check(40, steps)
        order = Order(40, steps)
        self.assertEqual(order.covers(), sorted(steps))
        self.assertEqual(len(order.pairs()), 780)
        self.assertEqual(order.lowest(), names[:1])
        self.assertEqual(order.highest(), names[-1:])

    def test_iteration_within_iteration(self):
        order = Order(4, [(0, 1), (1, 2), (3, 2)])
        found = [(one, other) for one in order for other in order]
        self.assertEqual(found, list(itertools.product(order.pairs(), repeat=2)))


class CopiesTest(unittest.TestCase):

    def test_the_list_that_is_passed_stays_and_may_be_changed(self):
        pairs = [(2, 3), (0, 1), (1, 2), (0, 1)]
        order = Order(4, pairs)
        self.assertEqual(pairs, [(2, 3), (0, 1), (1, 2), (0, 1)])
        pairs.clear()
        pairs.append((3, 0))
        self.assertEqual(order.covers(), [(0, 1), (1, 2), (2, 3)])
        self.assertTrue(order.below(0, 3))

    def test_lists_that_are_returned_may_be_changed(self):
        order = Order(5, [(0, 1), (1, 2), (0, 3), (3, 2)])
        asked = [order.pairs, order.covers, order.lowest, order.highest]
        for e in range(5):
            asked += [lambda e=e: order.above(e), lambda e=e: order.under(e), lambda e=e: order.upper_covers(e)]
        for ask in asked:
            first = ask()
            before = list(first)
            first.append(99)
            first.reverse()
            self.assertEqual(ask(), before)
            self.assertIsNot(ask(), ask())
        self.assertTrue(same(order, Order(5, [(0, 1), (1, 2), (0, 3), (3, 2)])))

    def test_two_orders_do_not_touch_one_another(self):
        pairs = [(0, 1)]
        one = Order(3, pairs)
        pairs.append((1, 2))
        other = Order(3, pairs)
        self.assertEqual(one.pairs(), [(0, 1)])
        self.assertEqual(other.pairs(), [(0, 1), (0, 2), (1, 2)])
        self.assertEqual(one.highest(), [1, 2])

    def test_an_error_changes_no_other_order(self):
        pairs = [(0, 1), (1, 2)]
        order = Order(3, pairs)
        for worse in ((1, 3), (2, 0)):
            with self.assertRaises(OrderError):
                Order(3, pairs + [worse])
        self.assertEqual(pairs, [(0, 1), (1, 2)])
        self.assertEqual(order.pairs(), [(0, 1), (0, 2), (1, 2)])


class SameTest(unittest.TestCase):

    def test_equal_orders_of_different_pairs(self):
        one = Order(4, [(0, 1), (1, 2), (2, 3)])
        other = Order(4, [(2, 3), (0, 3), (1, 2), (0, 2), (0, 1), (0, 1)])
        self.assertIs(same(one, other), True)
        self.assertIs(same(one, one), True)
        self.assertIs(same(Order(0, []), Order(0, [])), True)

    def test_orders_with_one_pair_less(self):
        for size, pairs in plain.small_cases():
            facts = plain.Facts(size, pairs)
            for gone in [pair for pair in pairs if facts.covers(*pair)]:
                less = [pair for pair in pairs if pair != gone]
                self.assertIs(same(Order(size, pairs), Order(size, less)), False)
                self.assertIs(same(Order(size, less), Order(size, pairs)), False)

    def test_orders_of_other_sizes(self):
        self.assertIs(same(Order(2, [(0, 1)]), Order(3, [(0, 1)])), False)
        self.assertIs(same(Order(0, []), Order(1, [])), False)
        self.assertIs(same(Order(40, []), Order(39, [])), False)

    def test_all_pairs_of_small_orders(self):
        cases = [(size, list(pairs)) for size in range(4) for pairs in plain.all_pairs(size)]
        for one, other in itertools.product(cases, repeat=2):
            self.assertIs(same(Order(*one), Order(*other)), one == other)


if __name__ == "__main__":
    unittest.main()
