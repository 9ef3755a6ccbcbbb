"""Points 11 to 13 for the kind rows, and the section drawnorders/tworows.py of the interface."""

import itertools
import random
import unittest

from drawnorders.order import Order
from drawnorders.tworows import draw_rows

import plain
from plainrows import listed_rows

CROWN = [(low, 3 + high) for low in range(3) for high in range(3) if low != high]


def row_pairs(one, other):
    """The pairs of the order that two rows show."""
    return [(a, b) for at, a in enumerate(one) for b in one[at + 1:] if other.index(a) < other.index(b)]


def row_cases(seed, sizes, many):
    """Orders that two rows show, the second one more or less like the first one."""
    rng = random.Random(seed)
    cases = []
    for size in sizes:
        for _ in range(many):
            one = plain.shuffled_names(rng, size)
            far = rng.choice((1, 3, 10, 100))
            other = sorted(one, key=lambda e: one.index(e) + rng.random() * far)
            cases.append((size, row_pairs(one, rng.choice((other, other[::-1])))))
    return cases


def two_rows_exist(facts):
    """True if some two rows show the order, found by going through all first ones.

    The second one has in the other order just those elements that are apart.
    """
    for one in listed_rows(facts):
        place = {e: at for at, e in enumerate(one)}
        ahead = {(a, b) for a, b in itertools.permutations(range(facts.size), 2)
                 if facts.below(a, b) or (facts.apart(a, b) and place[b] < place[a])}
        counts = sorted(len([a for a, x in ahead if x == b]) for b in range(facts.size))
        if counts == list(range(facts.size)):
            return True
    return False


class TwoRowsTest(unittest.TestCase):

    def check(self, size, pairs, word=None):
        """The answer is right, by its own two rows or its own ring. Returns the word."""
        order, facts = Order(size, pairs), plain.Facts(size, pairs)
        answer = draw_rows(order)
        self.assertIs(type(answer), tuple)
        found, paper = answer
        self.assertIs(type(found), bool)
        if word is not None:
            self.assertIs(found, word, (size, pairs))
        if found:
            self.assertEqual(plain.shown_rows(size, paper), facts.stands)
        else:
            self.assertTrue(plain.is_rows_paper(facts, paper), (size, pairs, paper))
        self.assertEqual(order.pairs(), sorted(facts.stands))
        return found

    def test_told_by_hand(self):
        self.assertEqual(draw_rows(Order(2, [(1, 0)])), (True, ((1, 0), (1, 0))))
        self.assertIn(draw_rows(Order(2, [])), ((True, ((0, 1), (1, 0))), (True, ((1, 0), (0, 1)))))
        self.assertIn(draw_rows(Order(3, [(0, 1)])), ((True, ((0, 1, 2), (2, 0, 1))), (True, ((2, 0, 1), (0, 1, 2)))))

    def test_all_orders_of_up_to_five_elements_have_two_rows(self):
        for size, pairs in plain.small_cases() + plain.five_cases():
            self.check(size, pairs, True)

    def test_six_elements(self):
        words = [self.check(size, pairs) for size, pairs in plain.six_cases()]
        self.assertGreater(words.count(False), 10)

    def test_six_elements_against_all_rows(self):
        cases = plain.six_cases()
        without = [case for case in cases if not draw_rows(Order(*case))[0]]
        for size, pairs in without[::5] + cases[::40]:
            self.check(size, pairs, two_rows_exist(plain.Facts(size, pairs)))

    def test_seven_and_eight_elements_against_all_rings(self):
        rng = random.Random(71)
        words = []
        for turn in range(600):
            size = rng.choice((7, 8))
            pairs = plain.random_pairs(rng, size, rng.choice((0.15, 0.25, 0.35)))
            words.append(self.check(size, pairs, not plain.some_rows_paper(plain.Facts(size, pairs))))
        self.assertGreater(words.count(False), 5)
        self.assertGreater(words.count(True), 20)

    def test_seven_elements_against_all_rows(self):
        rng = random.Random(72)
        for turn in range(40):
            pairs = plain.random_pairs(rng, 7, 0.35)
            self.check(7, pairs, two_rows_exist(plain.Facts(7, pairs)))

    def test_orders_that_two_rows_make(self):
        for size, pairs in row_cases(73, range(1, 41), 5):
            self.check(size, pairs, True)

    def test_orders_that_two_rows_make_with_a_pair_less_or_more(self):
        rng = random.Random(74)
        words = []
        for size, pairs in row_cases(75, range(6, 41), 3):
            for changed in plain.with_a_pair_less_or_more(rng, size, pairs):
                words.append(self.check(size, changed))
        self.assertGreater(words.count(True), 30)
        self.assertGreater(words.count(False), 30)

    def test_crowns_of_three_and_three(self):
        for names in list(itertools.permutations(range(6)))[::7]:
            self.check(6, plain.renamed_pairs(CROWN, names), False)

    def test_crowns_with_more_elements(self):
        rng = random.Random(76)
        for turn in range(60):
            size = rng.randrange(7, 41)
            # No pair leads back to the elements of the crown, or between two of them, so it stays a crown.
            pairs = CROWN + [(e, more) for more in range(6, size) for e in range(more)
                             if rng.random() < rng.choice((0.0, 0.05, 0.3))]
            names = plain.shuffled_names(rng, size)
            self.check(size, plain.renamed_pairs(pairs, names), False)
            self.check(size, plain.renamed_pairs([(high, low) for low, high in pairs], names), False)

    def test_greater_crowns(self):
        for half in (4, 5, 10, 20):
            self.check(2 * half, [(a, half + b) for a in range(half) for b in range(half) if a != b], False)

    def test_chains_levels_and_elements_apart(self):
        for size in (1, 2, 7, 40):
            self.check(size, [], True)
            self.check(size, [(e, e + 1) for e in range(size - 1)], True)
            self.check(size, [(a, b) for a in range(size) for b in range(size) if a // 4 < b // 4], True)
            self.check(size, [(a, b) for a in range(size) for b in range(a + 1, size) if a % 4 == b % 4], True)

    def test_orders_of_many_elements(self):
        for size, pairs in plain.random_cases(77, (10, 15, 25, 40), 12):
            self.check(size, pairs)

    def test_forty_elements_against_all_rings(self):
        for size, pairs in row_cases(78, (40,), 1) + plain.random_cases(79, (40,), 2):
            self.check(size, pairs, not plain.some_rows_paper(plain.Facts(size, pairs)))


if __name__ == "__main__":
    unittest.main()
