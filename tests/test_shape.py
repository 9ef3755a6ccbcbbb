"""Points 22 and 23, and the section drawnorders/shape.py of the interface."""

import copy
import random
import time
import unittest

from drawnorders.levels import longest_chain
from drawnorders.making import dual
from drawnorders.order import Order
from drawnorders.shape import antichain_cover, chain_cover, shape, shows_antichain_cover, shows_chain_cover
from drawnorders.width import width

import plain
import plaincovers

FAR = 10 ** 12


def cases():
    return plain.small_cases() + plain.five_cases()[::12] + plain.six_cases()[::15]


def counts_for(size):
    return list(range(min(size, 7))) + [size // 2, size - 1, size, size + 1, 2 * size + 5, FAR, FAR ** 9]


class CoverTest(unittest.TestCase):

    def check_form(self, facts, answer):
        self.assertIs(type(answer), tuple)
        number, some, others = answer
        self.assertIs(type(number), int)
        self.assertEqual(number, sum(map(len, some)))
        for lists in (some, others):
            self.assertTrue(type(lists) is list and all(type(one) is list and one for one in lists))
            self.assertEqual(len({id(one) for one in lists}), len(lists))

    def check(self, order, facts, count):
        """Both covers show themselves, and have the numbers that the shape tells. Returns the numbers."""
        told = shape(order)
        one = chain_cover(order, count)
        self.check_form(facts, one)
        self.assertTrue(plaincovers.shows_chain_cover(facts, count, one[1], one[2]), (facts.given, count, one))
        self.assertIs(shows_chain_cover(order, count, one[1], one[2]), True)
        self.assertEqual(one[0], sum(told[:count]))
        other = antichain_cover(order, count)
        self.check_form(facts, other)
        self.assertTrue(plaincovers.shows_antichain_cover(facts, count, other[1], other[2]), (facts.given, count, other))
        self.assertIs(shows_antichain_cover(order, count, other[1], other[2]), True)
        self.assertEqual(other[0], sum(min(count, number) for number in told))
        self.assertEqual(order.pairs(), sorted(facts.stands))
        return one[0], other[0]

    def test_small_orders_against_all_sets(self):
        for size, pairs in cases():
            order, facts = Order(size, pairs), plain.Facts(size, pairs)
            chains = plaincovers.most_covered(facts, "chains")
            antichains = plaincovers.most_covered(facts, "antichains")
            for count in range(size + 1):
                self.assertEqual(self.check(order, facts, count), (chains[count], antichains[count]))
            for count in (size + 1, size + 2, FAR):
                self.assertEqual(self.check(order, facts, count), (size, size))
            self.assertEqual(shape(order), [b - a for a, b in zip(chains, chains[1:]) if b > a])

    def test_all_small_orders(self):
        for size, pairs in plain.five_cases()[::3] + plain.six_cases()[::3]:
            order, facts = Order(size, pairs), plain.Facts(size, pairs)
            for count in range(size + 2):
                self.check(order, facts, count)

    def test_many_elements(self):
        for size, pairs in plaincovers.wide_cases(171, (16, 28, 40), 8):
            order, facts = Order(size, pairs), plain.Facts(size, pairs)
            for count in counts_for(size):
                start = time.time()
                self.check(order, facts, count)
                self.assertLess(time.time() - start, 4)

    def test_told_by_hand(self):
        empty = Order(0, [])
        for count in (0, 1, FAR):
            self.assertEqual(chain_cover(empty, count), (0, [], []))
            self.assertEqual(antichain_cover(empty, count), (0, [], []))
        # Two chains of two, of which one has an element more in the middle of another chain.
        order = Order(6, [(0, 1), (1, 2), (2, 3), (4, 2), (1, 5)])
        self.assertEqual(shape(order), [4, 2])
        self.assertEqual([chain_cover(order, count)[0] for count in (0, 1, 2, 3)], [0, 4, 6, 6])
        self.assertEqual([antichain_cover(order, count)[0] for count in (0, 1, 2, 3, 4, 5)], [0, 2, 4, 5, 6, 6])
        self.assertEqual(chain_cover(Order(2, [(1, 0)]), 1)[:2], (2, [[1, 0]]))
        self.assertEqual(sorted(antichain_cover(Order(2, [(1, 0)]), 2)[1]), [[0], [1]])

    def test_one_longest_chain_is_not_enough(self):
        """With the longest chain two chains cover 4 + 1 elements, and two other ones cover 3 + 3."""
        order = Order(6, [(0, 1), (1, 2), (2, 3), (4, 2), (1, 5)])
        chains = sorted(chain_cover(order, 2)[1])
        self.assertEqual(sorted(map(len, chains)), [3, 3])

    def test_changed_lists_change_no_later_answer(self):
        for size, pairs in cases()[::9] + plaincovers.wide_cases(172, (16,), 3):
            order = Order(size, pairs)
            for count in (0, 1, 2, size, FAR):
                for ask in (chain_cover, antichain_cover):
                    answer = ask(order, count)
                    kept = copy.deepcopy(answer)
                    for lists in answer[1:]:
                        for one in lists:
                            one.reverse()
                            one.append(0)
                        lists.append([1])
                    self.assertEqual(ask(order, count), kept)
            told = shape(order)
            kept = list(told)
            told.append(5)
            self.assertEqual(shape(order), kept)


class ShapeTest(unittest.TestCase):

    def test_shapes(self):
        rng = random.Random(173)
        for size, pairs in cases() + plaincovers.wide_cases(174, (9, 16, 28, 40), 10):
            order = Order(size, pairs)
            start = time.time()
            told = shape(order)
            self.assertLess(time.time() - start, 2)
            self.assertTrue(type(told) is list and all(type(number) is int and number > 0 for number in told))
            self.assertEqual(told, sorted(told, reverse=True))
            self.assertEqual((sum(told), len(told)), (size, width(order)))
            if size:
                self.assertEqual(told[0], len(longest_chain(order)))
            self.assertEqual(shape(dual(order)), told)
            self.assertEqual(shape(Order(size, plain.renamed_pairs(pairs, plain.shuffled_names(rng, size)))), told)

    def test_told_by_hand(self):
        self.assertEqual(shape(Order(0, [])), [])
        self.assertEqual(shape(Order(1, [])), [1])
        self.assertEqual(shape(Order(40, [])), [1] * 40)
        self.assertEqual(shape(Order(40, [(e + 1, e) for e in range(39)])), [40])
        self.assertEqual(shape(Order(5, [(0, 1), (1, 2), (3, 4)])), [3, 2])
        self.assertEqual(shape(Order(6, [(a, b) for a in range(3) for b in range(3, 6)])), [2, 2, 2])


class ShowsCoverTest(unittest.TestCase):

    def check(self, order, facts, count, some, others):
        """The same lists for both functions. Returns the two words."""
        before = copy.deepcopy((some, others))
        words = (shows_chain_cover(order, count, some, others), shows_antichain_cover(order, count, some, others))
        self.assertIs(words[0], plaincovers.shows_chain_cover(facts, count, some, others), (facts.given, count, some, others))
        self.assertIs(words[1], plaincovers.shows_antichain_cover(facts, count, some, others), (facts.given, count, some, others))
        self.assertEqual((some, others), before)
        return list(words)

    def test_changed_answers(self):
        rng = random.Random(175)
        words = []
        for size, pairs in cases()[::2] + plaincovers.wide_cases(176, (8, 28, 40), 5):
            order, facts = Order(size, pairs), plain.Facts(size, pairs)
            for count in (0, 1, 2, 3, rng.randrange(size + 1), FAR):
                for _, some, others in (chain_cover(order, count), antichain_cover(order, count)):
                    words += self.check(order, facts, count, some, others)
                    for turn in range(2):
                        words += self.check(order, facts, count, plaincovers.changed_lists(rng, size, some), others)
                        words += self.check(order, facts, count, some, plaincovers.changed_lists(rng, size, others))
                    words += self.check(order, facts, count + 1, some, others)
                    words += self.check(order, facts, max(0, count - 1), some, others)
                    words += self.check(order, facts, count, others, some)
        self.assertGreater(words.count(True), 1000)
        self.assertGreater(words.count(False), 1000)

    def test_empty_lists(self):
        words = []
        for size, pairs in cases()[::4]:
            order, facts = Order(size, pairs), plain.Facts(size, pairs)
            for count in (0, 1, 2, 3, size, size + 2, FAR):
                for _, some, others in (chain_cover(order, count), antichain_cover(order, count)):
                    for many in range(1, 5):
                        words += self.check(order, facts, count, some + [[]] * many, others)
                        words += self.check(order, facts, count, [[]] * many + some, others)
                    self.assertEqual(self.check(order, facts, count, some, others + [[]]), [False, False])
        self.assertGreater(words.count(True), 100)
        self.assertGreater(words.count(False), 100)

    def test_empty_lists_count(self):
        order = Order(3, [(0, 1)])
        self.assertIs(shows_chain_cover(order, 1, [[0, 1]], [[0, 2], [1]]), True)
        self.assertIs(shows_chain_cover(order, 1, [[0, 1], []], [[0, 2], [1]]), False)
        self.assertIs(shows_chain_cover(order, 2, [[0, 1], [2]], [[0, 2], [1]]), True)
        self.assertIs(shows_chain_cover(order, 3, [[0, 1], [], [2]], [[0, 2], [1]]), True)
        self.assertIs(shows_chain_cover(order, 2, [[0, 1], [], [2]], [[0, 2], [1]]), False)
        self.assertIs(shows_antichain_cover(order, 1, [[0, 2]], [[0, 1], [2]]), True)
        self.assertIs(shows_antichain_cover(order, 1, [[], [0, 2]], [[0, 1], [2]]), False)
        self.assertIs(shows_antichain_cover(order, 3, [[], [0, 2], [1]], [[0, 1], [2]]), True)
        self.assertIs(shows_chain_cover(order, 0, [], [[0, 2], [1]]), True)
        self.assertIs(shows_chain_cover(order, 0, [[]], [[0, 2], [1]]), False)
        self.assertIs(shows_chain_cover(order, 0, [], []), False)
        empty = Order(0, [])
        self.assertIs(shows_chain_cover(empty, 0, [], []), True)
        self.assertIs(shows_chain_cover(empty, 2, [[], []], []), True)
        self.assertIs(shows_chain_cover(empty, 1, [[], []], []), False)
        self.assertIs(shows_antichain_cover(empty, 2, [[], []], [[]]), False)

    def test_drawn_lists(self):
        rng = random.Random(177)
        words = []
        for size, pairs in cases()[::2]:
            order, facts = Order(size, pairs), plain.Facts(size, pairs)
            for turn in range(12):
                count = rng.choice((0, 1, 2, 3, FAR))
                some = plaincovers.drawn_lists(rng, size)[:rng.choice((1, 2, 9))]
                words += self.check(order, facts, count, some, plaincovers.drawn_lists(rng, size))
        self.assertGreater(words.count(True), 20)
        self.assertGreater(words.count(False), 1000)


if __name__ == "__main__":
    unittest.main()
