"""Point 21, and the section drawnorders/width.py of the interface."""

import copy
import itertools
import random
import time
import unittest

from drawnorders.kinds import draw
from drawnorders.making import dual
from drawnorders.order import Order
from drawnorders.trees import tree_width
from drawnorders.width import fewest_chains, highest_widest, is_antichain, is_chain, lowest_widest, shows_width, width

import plain
import plaincovers


def cases():
    return plain.small_cases() + plain.five_cases()[::9] + plain.six_cases()[::12]


class WidthTest(unittest.TestCase):

    def check(self, order, facts):
        """All four answers fit together, which proves the width. Returns the width."""
        chains, low, high = fewest_chains(order), lowest_widest(order), highest_widest(order)
        self.assertTrue(type(chains) is list and all(type(chain) is list for chain in chains))
        for some in (low, high):
            self.assertIs(type(some), list)
            self.assertEqual(some, sorted(some))
            self.assertTrue(plaincovers.shows_width(facts, chains, some), (facts.given, chains, some))
            self.assertIs(shows_width(order, chains, some), True)
        self.assertEqual(width(order), len(chains))
        self.assertIs(type(width(order)), int)
        self.assertEqual(lowest_widest(dual(order)), high)
        self.assertEqual(highest_widest(dual(order)), low)
        self.assertEqual(order.pairs(), sorted(facts.stands))
        return len(chains)

    def test_against_all_sets(self):
        for size, pairs in cases():
            order, facts = Order(size, pairs), plain.Facts(size, pairs)
            some = plaincovers.all_antichains(facts)
            most = max(map(len, some))
            self.assertEqual(self.check(order, facts), most)
            widest = [one for one in some if len(one) == most]
            low = [one for one in widest if all(plaincovers.is_lower(facts, one, other) for other in widest)]
            high = [one for one in widest if all(plaincovers.is_lower(facts, other, one) for other in widest)]
            self.assertEqual([list(one) for one in low], [lowest_widest(order)])
            self.assertEqual([list(one) for one in high], [highest_widest(order)])

    def test_many_elements(self):
        for size, pairs in plaincovers.wide_cases(161, (7, 12, 25, 40), 12):
            order, facts = Order(size, pairs), plain.Facts(size, pairs)
            for ask in (width, fewest_chains, lowest_widest, highest_widest):
                start = time.time()
                ask(order)
                self.assertLess(time.time() - start, 2)
            self.assertEqual(self.check(order, facts), plaincovers.width_of(facts, list(range(size))))
            low, high = plaincovers.widest_ends(facts)
            self.assertEqual((lowest_widest(order), highest_widest(order)), (low, high))

    def test_renamed(self):
        rng = random.Random(162)
        for size, pairs in plaincovers.wide_cases(163, (6, 12, 40), 6):
            names = plain.shuffled_names(rng, size)
            order, other = Order(size, pairs), Order(size, plain.renamed_pairs(pairs, names))
            self.assertEqual(width(order), width(other))
            self.assertEqual(sorted(names[e] for e in lowest_widest(order)), lowest_widest(other))
            self.assertEqual(sorted(names[e] for e in highest_widest(order)), highest_widest(other))

    def test_told_by_hand(self):
        empty = Order(0, [])
        self.assertEqual((fewest_chains(empty), width(empty), lowest_widest(empty), highest_widest(empty)), ([], 0, [], []))
        self.assertIs(shows_width(empty, [], []), True)
        self.assertIs(shows_width(empty, [[]], []), False)
        one = Order(1, [])
        self.assertEqual((fewest_chains(one), width(one), lowest_widest(one), highest_widest(one)), ([[0]], 1, [0], [0]))
        ladder = Order(4, [(3, 1), (2, 0)])
        self.assertEqual((width(ladder), lowest_widest(ladder), highest_widest(ladder)), (2, [2, 3], [0, 1]))
        self.assertEqual(sorted(fewest_chains(ladder)), [[2, 0], [3, 1]])
        loose = Order(40, [])
        self.assertEqual((sorted(fewest_chains(loose)), width(loose)), ([[e] for e in range(40)], 40))
        chain = Order(40, [(e + 1, e) for e in range(39)])
        self.assertEqual((fewest_chains(chain), lowest_widest(chain), highest_widest(chain)), ([list(range(39, -1, -1))], [39], [0]))

    def test_the_number_is_that_which_trees_tell(self):
        told = 0
        for size, pairs in plain.random_cases(164, (5, 12, 40), 20):
            word, tree = draw(Order(size, pairs), "joins")
            if word:
                told += 1
                self.assertEqual(width(Order(size, pairs)), tree_width(tree))
        self.assertGreater(told, 10)

    def test_new_lists(self):
        for size, pairs in cases()[::7]:
            order = Order(size, pairs)
            told = (fewest_chains(order), lowest_widest(order), highest_widest(order))
            kept = copy.deepcopy(told)
            for chain in told[0]:
                chain.append(0)
            for some in told:
                some.append(7)
            self.assertEqual((fewest_chains(order), lowest_widest(order), highest_widest(order)), kept)


class ChainsTest(unittest.TestCase):

    def test_all_lists_of_small_orders(self):
        for size, pairs in plain.small_cases()[::4]:
            order, facts = Order(size, pairs), plain.Facts(size, pairs)
            for many in range(4):
                for some in itertools.product(range(size), repeat=many):
                    self.assertIs(is_chain(order, list(some)), plaincovers.is_chain(facts, some))
                    self.assertIs(is_antichain(order, list(some)), plaincovers.is_antichain(facts, some))

    def test_drawn_lists(self):
        rng = random.Random(165)
        words = []
        for size, pairs in plain.random_cases(166, (5, 12, 40), 30):
            order, facts = Order(size, pairs), plain.Facts(size, pairs)
            for turn in range(30):
                some = [rng.randrange(size) for _ in range(rng.randrange(5))]
                if turn % 2:
                    # The more an element has below it, the later it stands.
                    some = sorted(some, key=lambda e: len(order.under(e)))
                before = list(some)
                words += [is_chain(order, some), is_antichain(order, some)]
                self.assertEqual(words[-2:], [plaincovers.is_chain(facts, some), plaincovers.is_antichain(facts, some)])
                self.assertEqual(some, before)
        self.assertGreater(words.count(True), 100)
        self.assertGreater(words.count(False), 100)

    def test_told_by_hand(self):
        order = Order(4, [(0, 1), (1, 2)])
        for some, chain, antichain in (
                ([], True, True), ([3], True, True), ([0, 1, 2], True, False), ([0, 2], True, False), ([2, 0], False, False),
                ([0, 0], False, False), ([3, 3], False, False), ([0, 3], False, True), ([3, 0], False, True), ([0, 2, 1], False, False),
                ([0, 3, 1], False, False), ([0, 1, 0], False, False), ([1, 3], False, True), ([3, 1, 3], False, False)):
            self.assertIs(is_chain(order, some), chain, some)
            self.assertIs(is_antichain(order, some), antichain, some)


class ShowsWidthTest(unittest.TestCase):

    def check(self, order, facts, chains, members):
        before = copy.deepcopy((chains, members))
        word = shows_width(order, chains, members)
        self.assertIs(word, plaincovers.shows_width(facts, chains, members), (facts.size, facts.given, chains, members))
        self.assertEqual((chains, members), before)
        return word

    def test_changed_answers(self):
        rng = random.Random(167)
        words = []
        for size, pairs in cases()[::2] + plaincovers.wide_cases(168, (8, 40), 8):
            order, facts = Order(size, pairs), plain.Facts(size, pairs)
            chains, low = fewest_chains(order), lowest_widest(order)
            self.assertIs(self.check(order, facts, chains, rng.sample(low, len(low))), True)
            for turn in range(12):
                words.append(self.check(order, facts, plaincovers.changed_lists(rng, size, chains), low))
                other = (plaincovers.changed_lists(rng, size, [low]) or [[]])[0]
                words.append(self.check(order, facts, chains, other))
            words.append(self.check(order, facts, chains + [[]], low))
            words.append(self.check(order, facts, chains, low[1:]))
            words.append(self.check(order, facts, chains, low + low[:1]))
            words.append(self.check(order, facts, [[e] for e in range(size)], low))
            words.append(self.check(order, facts, [[e] for e in range(size)], list(range(size))))
        self.assertGreater(words.count(True), 100)
        self.assertGreater(words.count(False), 500)

    def test_drawn_lists(self):
        rng = random.Random(169)
        words = []
        for size, pairs in cases()[::3]:
            order, facts = Order(size, pairs), plain.Facts(size, pairs)
            for turn in range(20):
                members = rng.choice(plaincovers.drawn_lists(rng, size) or [[]])
                words.append(self.check(order, facts, plaincovers.drawn_lists(rng, size), members))
        self.assertGreater(words.count(True), 10)
        self.assertGreater(words.count(False), 500)


if __name__ == "__main__":
    unittest.main()
