"""Points 2 and 9 to 13: each draw_ function against the document, for all kinds."""

import random
import unittest

from drawnorders.forest import draw_forest
from drawnorders.joins import draw_joins
from drawnorders.levels import draw_levels
from drawnorders.netarcs import draw_arcs
from drawnorders.order import Order
from drawnorders.spans import draw_spans
from drawnorders.tworows import draw_rows
from drawnorders.unit import draw_unit

import plain

DRAW = {
    "levels": draw_levels, "forest": draw_forest, "joins": draw_joins, "arcs": draw_arcs,
    "spans": draw_spans, "unit": draw_unit, "rows": draw_rows}


def check_answer(test, kind, facts):
    """The answer is right: its drawing or its paper proves its word. Returns the word."""
    order = Order(facts.size, facts.given)
    answer = DRAW[kind](order)
    test.assertIs(type(answer), tuple)
    word, paper = answer
    test.assertIs(type(word), bool)
    if word:
        test.assertEqual(plain.SHOWN[kind](facts.size, paper), facts.stands)
        test.assertTrue(plain.is_told(kind, facts, paper), (kind, facts.size, facts.given, paper))
    else:
        test.assertTrue(plain.is_paper(kind, facts, paper), (kind, facts.size, facts.given, paper))
    test.assertEqual(order.pairs(), sorted(facts.stands))
    test.assertEqual(DRAW[kind](order), answer)
    return word


def tree_order(rng, tree):
    """Size and pairs of the order that a tree shows, with the elements renamed."""
    size = len(plain.tree_members(tree))
    names = plain.shuffled_names(rng, size)
    return size, plain.renamed_pairs(plain.tree_pairs(tree), names)


def random_tree(rng, first, end):
    """Some tree of the elements from first on, before end."""
    if end - first == 1:
        return ("one", first)
    cuts = sorted(rng.sample(range(first + 1, end), rng.randrange(1, min(4, end - first))))
    edges = [first] + cuts + [end]
    trees = tuple(random_tree(rng, a, b) for a, b in zip(edges, edges[1:]))
    return (rng.choice(("beside", "above")), trees)


def deep_tree(first, end, word):
    """A tree nested as deep as its elements allow, one element beside or below all later ones."""
    if end - first == 1:
        return ("one", first)
    other = {"beside": "above", "above": "beside"}[word]
    inner = deep_tree(first + 1, end, other)
    return (word, (("one", first), inner) if first & 2 else (inner, ("one", first)))


def random_net(rng, size):
    """The pairs of an order that arcs of some net without a ring show."""
    many = rng.randrange(2, 20)
    arcs = [sorted(rng.sample(range(many), 2)) for _ in range(size)]
    return [(a, b) for a in range(size) for b in range(size) if arcs[a][1] == arcs[b][0]]


class ShapesTest(unittest.TestCase):
    """Orders whose drawings can be told by hand."""

    def test_no_element(self):
        order = Order(0, [])
        self.assertEqual(draw_levels(order), (True, ()))
        self.assertEqual(draw_forest(order), (True, ()))
        self.assertEqual(draw_joins(order), (True, ("beside", ())))
        self.assertEqual(draw_arcs(order), (True, ()))
        self.assertEqual(draw_spans(order), (True, ()))
        self.assertEqual(draw_unit(order), (True, (0, ())))
        self.assertEqual(draw_rows(order), (True, ((), ())))

    def test_one_element(self):
        order = Order(1, [])
        self.assertEqual(draw_levels(order), (True, (0,)))
        self.assertEqual(draw_forest(order), (True, (None,)))
        self.assertEqual(draw_joins(order), (True, ("one", 0)))
        self.assertEqual(draw_arcs(order), (True, ((0, 1),)))
        self.assertEqual(draw_spans(order), (True, ((0, 0),)))
        self.assertEqual(draw_unit(order), (True, (0, (0,))))
        self.assertEqual(draw_rows(order), (True, ((0,), (0,))))

    def test_two_elements(self):
        self.assertEqual(draw_arcs(Order(2, [])), (True, ((0, 1), (0, 1))))
        self.assertEqual(draw_arcs(Order(2, [(1, 0)])), (True, ((1, 2), (0, 1))))
        self.assertEqual(draw_joins(Order(2, [(1, 0)])), (True, ("above", (("one", 1), ("one", 0)))))
        self.assertEqual(draw_joins(Order(2, [])), (True, ("beside", (("one", 0), ("one", 1)))))
        self.assertEqual(draw_forest(Order(2, [(1, 0)])), (True, (1, None)))

    def test_the_four_elements_of_a_cycle(self):
        order = Order(4, [(3, 2), (2, 0), (3, 1), (1, 0)])
        self.assertEqual(draw_levels(order), (True, (2, 1, 1, 0)))
        self.assertEqual(draw_forest(order)[0], False)
        self.assertEqual(draw_joins(order), (True, ("above", (
            ("one", 3), ("beside", (("one", 1), ("one", 2))), ("one", 0)))))
        self.assertEqual(draw_arcs(order), (True, ((1, 3), (2, 1), (2, 1), (0, 2))))

    def test_the_letter_n(self):
        order = Order(4, [(0, 2), (1, 2), (1, 3)])
        self.assertEqual(draw_joins(order), (False, (0, 1, 2, 3)))
        self.assertEqual(draw_arcs(order), (False, (0, 1, 2, 3)))

    def test_arcs_that_joins_cannot_draw(self):
        # The letter N with an element between 1 and 2 has no covers in the form of an N.
        order = Order(5, [(0, 2), (1, 4), (4, 2), (1, 3)])
        self.assertEqual(draw_joins(order)[0], False)
        self.assertEqual(draw_arcs(order), (True, ((0, 1), (0, 2), (1, 3), (2, 3), (2, 1))))

    def test_the_numbers_of_the_heads(self):
        # 5 and 1 are covered by 2, 0 is covered by 4, 2 by 3, and nothing covers 3 and 4.
        order = Order(6, [(5, 2), (1, 2), (0, 4), (2, 3)])
        self.assertEqual(draw_arcs(order), (True, ((0, 1), (0, 2), (2, 3), (3, 4), (1, 4), (0, 2))))


class AllOrdersTest(unittest.TestCase):
    """The word is right exactly if no tuple is a paper."""

    def check(self, cases):
        for size, pairs in cases:
            facts = plain.Facts(size, pairs)
            for kind in DRAW:
                word = check_answer(self, kind, facts)
                self.assertIs(word, not plain.some_paper(kind, facts), (kind, size, pairs))

    def test_up_to_four_elements(self):
        self.check(plain.small_cases())

    def test_five_elements(self):
        self.check(plain.five_cases())

    def test_six_elements(self):
        self.check(plain.six_cases())

    def test_seven_to_nine_elements(self):
        self.check(plain.random_cases(31, (7, 8, 9), 25))

    def test_fourteen_elements(self):
        self.check(plain.random_cases(32, (14,), 5))


class LargeOrdersTest(unittest.TestCase):

    def check(self, kind, size, pairs, word=None):
        found = check_answer(self, kind, plain.Facts(size, pairs))
        if word is not None:
            self.assertIs(found, word)

    def check_all(self, size, pairs):
        for kind in DRAW:
            self.check(kind, size, pairs)

    def test_orders_of_up_to_forty_elements(self):
        for size, pairs in plain.random_cases(33, (16, 25, 33, 40), 6):
            self.check_all(size, pairs)

    def test_a_chain_and_no_pairs(self):
        names = plain.shuffled_names(random.Random(34), 40)
        for kind in DRAW:
            self.check(kind, 40, list(zip(names, names[1:])), True)
            self.check(kind, 40, [], True)

    def test_levels(self):
        rng = random.Random(35)
        for turn in range(10):
            size = rng.randrange(30, 41)
            level = [rng.randrange(1 + turn) for _ in range(size)]
            pairs = [(a, b) for a in range(size) for b in range(size) if level[a] < level[b]]
            self.check("levels", size, pairs, True)
            self.check_without_each(rng, size, pairs, "levels")

    def test_forests(self):
        rng = random.Random(36)
        for turn in range(10):
            size = rng.randrange(30, 41)
            names = plain.shuffled_names(rng, size)
            near = rng.choice((1, 2, 5, 40))
            pairs = [(names[max(0, rng.randrange(at - near, at))], names[at]) for at in range(1, size)
                     if rng.random() < 0.9]
            self.check_all(size, pairs)
            self.check("forest", size, pairs, True)
            self.check("joins", size, pairs, True)
            self.check("arcs", size, pairs, True)
            self.check("forest", size, [(high, low) for low, high in pairs])
            self.check_without_each(rng, size, pairs, "forest")

    def test_trees(self):
        rng = random.Random(37)
        for turn in range(15):
            size, pairs = tree_order(rng, random_tree(rng, 0, rng.randrange(30, 41)))
            self.check_all(size, pairs)
            self.check("joins", size, pairs, True)
            self.check_without_each(rng, size, pairs, "joins")

    def test_trees_nested_as_deep_as_forty_elements_allow(self):
        rng = random.Random(38)
        for word in ("beside", "above"):
            for size in (39, 40):
                tree = deep_tree(0, size, word)
                self.check("joins", *tree_order(rng, tree), True)
                self.check_all(*tree_order(rng, tree))

    def test_nets(self):
        rng = random.Random(39)
        for turn in range(10):
            pairs = random_net(rng, 40)
            self.check_all(40, pairs)
            self.check("arcs", 40, pairs, True)
            self.check_without_each(rng, 40, pairs, "arcs")

    def check_without_each(self, rng, size, pairs, kind):
        """The same order with one pair of covers less, or one pair more."""
        for changed in plain.with_a_pair_less_or_more(rng, size, pairs):
            self.check(kind, size, changed)


if __name__ == "__main__":
    unittest.main()
