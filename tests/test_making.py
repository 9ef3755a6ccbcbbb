"""Points 3 and 8, and the section drawnorders/making.py of the interface."""

import itertools
import random
import unittest

from drawnorders.errors import BadSize
from drawnorders.making import beside, dual, part, product, renamed, stacked
from drawnorders.order import Order

import plain


def cases():
    return plain.small_cases() + plain.random_cases(11, (5, 8, 20, 40), 4)


def few_cases():
    """Orders of up to three elements, and a few larger ones."""
    small = [case for case in plain.small_cases() if case[0] <= 3]
    return small + plain.random_cases(12, (4, 6), 3)


class MakingTest(unittest.TestCase):

    def check(self, order, size, stands):
        self.assertIsInstance(order, Order)
        self.assertEqual(order.size, size)
        self.assertEqual(order.pairs(), sorted(stands))


class DualTest(MakingTest):

    def test_dual(self):
        for size, pairs in cases():
            order = Order(size, pairs)
            before = order.pairs()
            self.check(dual(order), size, [(high, low) for low, high in plain.closed(size, pairs)])
            self.assertEqual(order.pairs(), before)


class RenamedTest(MakingTest):

    def test_all_renamings_of_small_orders(self):
        for size, pairs in plain.small_cases():
            for names in itertools.permutations(range(size)):
                self.check(renamed(Order(size, pairs), list(names)), size, plain.renamed_pairs(pairs, names))

    def test_larger_orders(self):
        rng = random.Random(13)
        for size, pairs in plain.random_cases(14, (10, 40), 5):
            names = plain.shuffled_names(rng, size)
            given = list(names)
            order = Order(size, pairs)
            before = order.pairs()
            made = renamed(order, names)
            self.assertEqual(names, given)
            self.assertEqual(order.pairs(), before)
            names.reverse()
            self.check(made, size, plain.renamed_pairs(plain.closed(size, pairs), given))


class PartTest(MakingTest):

    def told(self, facts, members):
        return [(i, k) for i, low in enumerate(members) for k, high in enumerate(members) if facts.below(low, high)]

    def test_all_parts_of_small_orders(self):
        for size, pairs in few_cases():
            order = Order(size, pairs)
            facts = plain.Facts(size, pairs)
            for many in range(min(size, 4) + 1):
                for members in itertools.permutations(range(size), many):
                    self.check(part(order, list(members)), many, self.told(facts, members))

    def test_no_members(self):
        for size in (0, 1, 40):
            self.check(part(Order(size, []), []), 0, [])

    def test_elements_that_are_only_joined_through_others(self):
        order = Order(4, [(3, 2), (2, 1), (1, 0)])
        self.check(part(order, [0, 3]), 2, [(1, 0)])
        self.check(part(order, [3, 0]), 2, [(0, 1)])

    def test_larger_orders(self):
        rng = random.Random(15)
        for size, pairs in plain.random_cases(16, (12, 40), 5):
            members = rng.sample(range(size), rng.randrange(size + 1))
            given = list(members)
            order = Order(size, pairs)
            made = part(order, members)
            self.assertEqual(members, given)
            self.check(order, size, plain.closed(size, pairs))
            members.clear()
            self.check(made, len(given), self.told(plain.Facts(size, pairs), given))


class BesideAndStackedTest(MakingTest):

    def told(self, parts, between):
        owners = [(at, e) for at, (size, _) in enumerate(parts) for e in range(size)]
        closures = [plain.closed(size, pairs) for size, pairs in parts]
        stands = []
        for low, (one, a) in enumerate(owners):
            for high, (other, b) in enumerate(owners):
                if (one == other and (a, b) in closures[one]) or (between and one < other):
                    stands.append((low, high))
        return len(owners), stands

    def check_parts(self, parts):
        orders = [Order(size, pairs) for size, pairs in parts]
        given = list(orders)
        for make, between in ((beside, False), (stacked, True)):
            size, stands = self.told(parts, between)
            self.check(make(orders), size, stands)
            self.assertEqual(orders, given)
            for order, (size, pairs) in zip(orders, parts):
                self.check(order, size, plain.closed(size, pairs))

    def test_no_orders(self):
        self.check_parts([])
        self.check_parts([(0, [])])
        self.check_parts([(0, []), (0, []), (0, [])])

    def test_one_order(self):
        for case in cases():
            self.check_parts([case])

    def test_two_orders(self):
        for one, other in itertools.product(few_cases(), repeat=2):
            self.check_parts([one, other])

    def test_several_orders(self):
        some = few_cases()
        rng = random.Random(17)
        for many in range(3, 7):
            for turn in range(20):
                self.check_parts([rng.choice(some) for _ in range(many)])

    def test_an_order_without_elements_among_them(self):
        chain = (3, [(2, 1), (1, 0)])
        self.check_parts([(0, []), chain, (0, []), (0, []), (2, [(1, 0)]), (0, [])])

    def test_one_order_twice(self):
        order = Order(3, [(0, 1), (0, 2)])
        self.check(beside([order, order]), 6, [(0, 1), (0, 2), (3, 4), (3, 5)])
        across = list(itertools.product((0, 1, 2), (3, 4, 5)))
        self.check(stacked([order, order]), 6, across + [(0, 1), (0, 2), (3, 4), (3, 5)])

    def test_forty_elements_and_more(self):
        halves = [(20, [(3, 2)]), (20, [(0, 19), (19, 5)])]
        self.check_parts(halves)
        self.check_parts([(1, [])] * 40)
        self.check_parts([(0, [])] + [(40, [(39, 0)])] + [(0, [])])
        for sizes in ((20, 21), (40, 1), (1,) * 41, (40, 40, 40), (40,) * 3000):
            orders = [Order(size, []) for size in sizes]
            for make in (beside, stacked):
                with self.assertRaises(BadSize) as caught:
                    make(orders)
                self.assertEqual(caught.exception.wanted, sum(sizes))

    def test_the_list_may_be_changed_afterwards(self):
        orders = [Order(1, []), Order(1, [])]
        side, stack = beside(orders), stacked(orders)
        orders.clear()
        self.check(side, 2, [])
        self.check(stack, 2, [(0, 1)])


class ProductTest(MakingTest):

    def told(self, one, other):
        first, second = plain.Facts(*one), plain.Facts(*other)
        stands = []
        for a, b, c, d in itertools.product(range(one[0]), range(other[0]), range(one[0]), range(other[0])):
            left = a == c or first.below(a, c)
            right = b == d or second.below(b, d)
            if (a, b) != (c, d) and left and right:
                stands.append((a * other[0] + b, c * other[0] + d))
        return stands

    def check_product(self, one, other):
        first, second = Order(*one), Order(*other)
        self.check(product(first, second), one[0] * other[0], self.told(one, other))
        self.check(first, one[0], plain.closed(*one))
        self.check(second, other[0], plain.closed(*other))

    def test_small_orders(self):
        for one, other in itertools.product(few_cases(), repeat=2):
            if one[0] * other[0] <= 40:
                self.check_product(one, other)

    def test_an_order_without_elements(self):
        for other in ((0, []), (1, []), (40, [(0, 1), (7, 3)])):
            self.check_product((0, []), other)
            self.check_product(other, (0, []))

    def test_forty_elements_and_more(self):
        self.check_product((40, [(39, 0), (0, 1)]), (1, []))
        self.check_product((1, []), (40, [(39, 0), (0, 1)]))
        self.check_product((5, [(0, 4), (4, 2)]), (8, [(0, 1), (7, 1), (1, 6)]))
        for one, other in ((6, 7), (7, 6), (40, 2), (40, 40), (21, 2)):
            with self.assertRaises(BadSize) as caught:
                product(Order(one, []), Order(other, []))
            self.assertEqual(caught.exception.wanted, one * other)

    def test_one_order_twice(self):
        order = Order(2, [(1, 0)])
        self.check(product(order, order), 4, self.told((2, [(1, 0)]), (2, [(1, 0)])))


if __name__ == "__main__":
    unittest.main()
