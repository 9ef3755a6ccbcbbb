"""Point 15 of the kind spans, points 11 to 13 in large orders of spans, and the section drawnorders/spans.py."""

import itertools
import random
import unittest

from drawnorders.order import Order
from drawnorders.spans import draw_spans, end_count

import plain


def span_pairs(rng, size, most, longest):
    """The pairs of an order that some spans show."""
    spans = []
    for _ in range(size):
        left = rng.randrange(most)
        spans.append((left, left + rng.randrange(longest)))
    return [(a, b) for a in range(size) for b in range(size) if spans[a][1] < spans[b][0]]


def span_cases(seed, sizes, many):
    rng = random.Random(seed)
    return [(size, span_pairs(rng, size, rng.choice((2, 5, 20, 100)), rng.choice((1, 3, 10, 50))))
            for size in sizes for _ in range(many)]


class SpansTest(unittest.TestCase):

    def check(self, size, pairs, word=None):
        """The answer is right, by its own drawing or paper. Returns the word."""
        order, facts = Order(size, pairs), plain.Facts(size, pairs)
        found, paper = draw_spans(order)
        if word is not None:
            self.assertIs(found, word)
        ends = end_count(order)
        self.assertIs(type(ends), int)
        self.assertEqual(ends, len(set(plain.lower_sets(facts))))
        if found:
            self.assertEqual(paper, plain.spans_told(facts))
            self.assertEqual(plain.shown_spans(size, paper), facts.stands)
            self.assertEqual(len({left for left, right in paper}), ends)
        else:
            self.assertTrue(plain.is_paper("spans", facts, paper), (size, pairs, paper))
        self.assertEqual(order.pairs(), sorted(facts.stands))
        return found

    def test_told_by_hand(self):
        self.assertEqual(draw_spans(Order(3, [])), (True, ((0, 0), (0, 0), (0, 0))))
        self.assertEqual(draw_spans(Order(3, [(2, 0), (0, 1)])), (True, ((1, 1), (2, 2), (0, 0))))
        self.assertEqual(draw_spans(Order(4, [(0, 1), (1, 2)])), (True, ((0, 0), (1, 1), (2, 2), (0, 2))))
        self.assertEqual(draw_spans(Order(4, [(0, 2), (1, 2), (1, 3)])), (True, ((0, 1), (0, 0), (2, 2), (1, 2))))

    def test_two_and_two(self):
        word, paper = draw_spans(Order(4, [(0, 3), (2, 1)]))
        self.assertIs(word, False)
        self.assertIn(paper, ((0, 3, 2, 1), (2, 1, 0, 3)))

    def test_numbers_of_lower_sets(self):
        self.assertEqual(end_count(Order(0, [])), 0)
        self.assertEqual(end_count(Order(1, [])), 1)
        self.assertEqual(end_count(Order(40, [])), 1)
        self.assertEqual(end_count(Order(40, [(e, e + 1) for e in range(39)])), 40)
        self.assertEqual(end_count(Order(4, [(0, 1), (2, 3)])), 3)
        self.assertEqual(end_count(Order(40, [(e, e + 1) for e in range(0, 40, 2)])), 21)

    def test_numbers_of_lower_sets_also_without_spans(self):
        without = 0
        for size, pairs in plain.small_cases() + plain.five_cases() + plain.six_cases()[::5]:
            without += not self.check(size, pairs)
        self.assertGreater(without, 1000)
        for size, pairs in plain.random_cases(51, (8, 15, 40), 15):
            self.check(size, pairs)

    def test_seven_elements(self):
        rng = random.Random(52)
        for turn in range(800):
            pairs = plain.random_pairs(rng, 7, rng.choice((0.1, 0.3, 0.5, 0.7)))
            word = self.check(7, pairs)
            self.assertIs(word, not plain.some_paper("spans", plain.Facts(7, pairs)))

    def test_orders_that_spans_make(self):
        for size, pairs in span_cases(53, range(1, 41), 8):
            self.check(size, pairs, True)

    def test_orders_that_spans_make_with_a_pair_less_or_more(self):
        rng = random.Random(54)
        words = []
        for size, pairs in span_cases(55, range(5, 41), 6):
            for changed in plain.with_a_pair_less_or_more(rng, size, pairs):
                words.append(self.check(size, changed))
        self.assertGreater(words.count(True), 30)
        self.assertGreater(words.count(False), 30)

    def test_forty_elements_against_all_tuples(self):
        for size, pairs in span_cases(56, (40,), 2) + plain.random_cases(57, (40,), 2):
            facts = plain.Facts(size, pairs)
            self.assertIs(self.check(size, pairs), not plain.some_paper("spans", facts))

    def test_no_drawing_has_less_different_lefts(self):
        for size, pairs in plain.small_cases():
            order = Order(size, pairs)
            if draw_spans(order)[0] and size in (1, 2, 3):
                self.check_all_drawings(size, pairs, end_count(order))

    def check_all_drawings(self, size, pairs, ends):
        spans = list(itertools.combinations_with_replacement(range(4), 2))
        for drawing in itertools.product(spans, repeat=size):
            if plain.shown_spans(size, drawing) == set(pairs):
                self.assertGreaterEqual(len({left for left, right in drawing}), ends)


if __name__ == "__main__":
    unittest.main()
