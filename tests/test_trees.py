"""Points 10 and 16, what points 18, 20 and 21 tell of a tree, and the section drawnorders/trees.py."""

import itertools
import random
import unittest

from drawnorders.joins import draw_joins
from drawnorders.order import Order
from drawnorders.trees import elements_in, match_trees, tree_height, tree_lots, tree_rows, tree_width

import plain
from plaintrees import EMPTY, WORDS, deep_numbers, depth, loose_trees


def subsets(size):
    return [set(some) for many in range(size + 1) for some in itertools.combinations(range(size), many)]


def rows_listed(facts):
    return [row for row in itertools.permutations(range(facts.size))
            if not any(facts.below(late, early) for early, late in itertools.combinations(row, 2))]


def lots_listed(facts):
    return [some for some in subsets(facts.size) if all(low in some for low, high in facts.stands if high in some)]


def width_listed(facts):
    return max(len(some) for some in subsets(facts.size)
               if all(facts.apart(a, b) for a, b in itertools.combinations(some, 2)))


def height_listed(facts):
    return max(len(some) for some in subsets(facts.size)
               if all(not facts.apart(a, b) for a, b in itertools.combinations(some, 2)))


def lots_and_rows_counted(facts, most):
    """The numbers of lots and of rows, lot by lot, or None if there are more lots than most."""
    under = [{low for low in range(facts.size) if facts.below(low, e)} for e in range(facts.size)]
    layer, lots = {frozenset(): 1}, 1
    for _ in range(facts.size):
        later = {}
        for lot, ways in layer.items():
            for e in range(facts.size):
                if e not in lot and under[e] <= lot:
                    later[lot | {e}] = later.get(lot | {e}, 0) + ways
        layer = later
        lots += len(layer)
        if lots > most:
            return None
    return lots, sum(layer.values())


def width_matched(facts):
    """The size less a greatest matching of elements with elements above them."""
    taken = {}

    def place(low, seen):
        for high in range(facts.size):
            if facts.below(low, high) and high not in seen:
                seen.add(high)
                if high not in taken or place(taken[high], seen):
                    taken[high] = low
                    return True
        return False

    return facts.size - sum(place(low, set()) for low in range(facts.size))


def facts_of(tree):
    return plain.Facts(len(plain.tree_members(tree)), plain.tree_pairs(tree))


class NumbersTest(unittest.TestCase):

    def check(self, tree, rows, lots, width, height):
        for ask, told in ((tree_rows, rows), (tree_lots, lots), (tree_width, width), (tree_height, height)):
            found = ask(tree)
            self.assertIs(type(found), int)
            self.assertEqual(found, told, (ask, tree))

    def test_trees_without_elements(self):
        for tree in EMPTY:
            self.assertEqual(elements_in(tree), [])
            self.check(tree, 1, 1, 0, 0)

    def test_one_element(self):
        for tree in (("one", 0), ("beside", (("one", 0),)), ("above", (("beside", ()), ("one", 0), ("above", ())))):
            self.assertEqual(elements_in(tree), [0])
            self.check(tree, 1, 2, 1, 1)

    def test_told_by_hand(self):
        ones = tuple(("one", e) for e in (2, 0, 1))
        self.check(("beside", ones), 6, 8, 3, 1)
        self.check(("above", ones), 1, 4, 1, 3)
        self.check(("beside", (("beside", ones[:2]), ones[2])), 6, 8, 3, 1)
        self.check(("above", (("above", ones[:2]), ones[2])), 1, 4, 1, 3)
        self.check(("above", (("beside", ones[:2]), ones[2])), 2, 5, 2, 2)
        self.check(("beside", (("above", ones[:2]), ones[2])), 3, 6, 2, 2)

    def test_elements_stand_as_in_the_tree(self):
        tree = ("above", (("one", 3), ("beside", (("one", 1), ("above", ()), ("above", (("one", 4), ("one", 0))))), ("one", 2)))
        self.assertEqual(elements_in(tree), [3, 1, 4, 0, 2])
        for tree in loose_trees(41, range(0, 41), 5):
            self.assertEqual(elements_in(tree), plain.tree_members(tree))

    def test_the_list_is_new(self):
        tree = ("beside", (("one", 0), ("one", 1)))
        elements_in(tree).append(5)
        elements_in(("one", 0)).append(5)
        self.assertEqual(elements_in(tree), [0, 1])
        self.assertEqual(elements_in(("one", 0)), [0])

    def test_small_trees_of_every_form_against_lists(self):
        for tree in loose_trees(42, range(0, 6), 60) + loose_trees(43, (6,), 25):
            facts = facts_of(tree)
            self.check(tree, len(rows_listed(facts)), len(lots_listed(facts)), width_listed(facts), height_listed(facts))

    def test_trees_that_are_drawn_against_lists(self):
        for size, pairs in plain.small_cases() + plain.five_cases()[::6]:
            word, tree = draw_joins(Order(size, pairs))
            if word:
                facts = plain.Facts(size, pairs)
                self.check(tree, len(rows_listed(facts)), len(lots_listed(facts)), width_listed(facts), height_listed(facts))

    def test_large_trees_against_counts(self):
        done = 0
        for tree in loose_trees(44, (8, 12, 20, 30, 40), 30):
            facts = facts_of(tree)
            self.assertEqual(tree_width(tree), width_matched(facts))
            self.assertEqual(tree_height(tree), max(plain.heights_told(facts)) + 1)
            counted = lots_and_rows_counted(facts, 1500)
            if counted is not None:
                done += 1
                self.assertEqual((tree_lots(tree), tree_rows(tree)), counted)
        self.assertGreater(done, 50)

    def test_forty_elements_nested_as_deep_as_a_thing_may_be(self):
        rng = random.Random(45)
        for turn in range(60):
            kinds = [1] * 39 + [rng.choice((0, 2)) for _ in range(10)]
            rng.shuffle(kinds)
            words = rng.choice((("beside",), ("above",), WORDS))
            steps = [(rng.choice(words), more, rng.random() < 0.5) for more in kinds]
            tree, size, rows, lots, width, height = deep_numbers(steps)
            self.assertEqual(size, 40)
            self.assertGreaterEqual(depth(tree), 99)
            self.check(tree, rows, lots, width, height)
            self.assertEqual(elements_in(tree), plain.tree_members(tree))

    def test_nested_a_hundred_deep_without_elements(self):
        tree = ("beside", ())
        for at in range(49):
            tree = (WORDS[at % 2], (tree,))
        self.assertEqual(depth(tree), 100)
        self.assertEqual(elements_in(tree), [])
        self.check(tree, 1, 1, 0, 0)

    def test_forty_elements_apart_and_in_a_chain(self):
        ones = tuple(("one", e) for e in range(40))
        factorial = 1
        for n in range(1, 41):
            factorial *= n
        self.check(("beside", ones), factorial, 2 ** 40, 40, 1)
        self.check(("above", ones), 1, 41, 1, 40)


def alike(tree):
    """A word for the form of a tree that `draw` returns, the same one for all its renamings."""
    if tree[0] == "one":
        return "1"
    words = [alike(part) for part in tree[1]]
    return tree[0] + "(" + ",".join(sorted(words) if tree[0] == "beside" else words) + ")"


def drawn(size, pairs):
    """The tree that draw_joins returns, or None."""
    word, tree = draw_joins(Order(size, pairs))
    return tree if word else None


class MatchTest(unittest.TestCase):

    def check_names(self, one, other, names):
        """The names make the order of the first tree that of the second one."""
        size = len(plain.tree_members(one))
        self.assertIs(type(names), tuple)
        self.assertEqual(sorted(names), list(range(size)))
        self.assertTrue(all(type(name) is int for name in names))
        self.assertEqual(plain.renamed_pairs(plain.tree_pairs(one), names), sorted(plain.tree_pairs(other)))

    def check(self, one, other):
        names = match_trees(one, other)
        if alike(one) == alike(other):
            self.check_names(one, other, names)
        else:
            self.assertIsNone(names)

    def check_renamed(self, rng, tree):
        """A tree and the tree of the same order renamed."""
        size = len(plain.tree_members(tree))
        names = plain.shuffled_names(rng, size)
        other = drawn(size, plain.renamed_pairs(plain.tree_pairs(tree), names))
        self.check_names(tree, other, match_trees(tree, other))
        self.check_names(other, tree, match_trees(other, tree))

    def test_no_element_and_one(self):
        none, one, two = ("beside", ()), ("one", 0), ("beside", (("one", 0), ("one", 1)))
        self.assertEqual(match_trees(none, none), ())
        self.assertEqual(match_trees(one, one), (0,))
        for first, second in itertools.permutations((none, one, two, ("above", two[1])), 2):
            self.assertIsNone(match_trees(first, second))

    def test_told_by_hand(self):
        # 0 below 1 and 2 below 3; 3 below 0 and 1 below 2.
        one, other = drawn(5, [(0, 1), (2, 3)]), drawn(5, [(3, 0), (1, 2)])
        self.assertIn(match_trees(one, other), ((3, 0, 1, 2, 4), (1, 2, 3, 0, 4)))
        self.assertEqual(match_trees(drawn(3, [(2, 1), (1, 0)]), drawn(3, [(0, 2), (2, 1)])), (1, 2, 0))
        self.assertIsNone(match_trees(drawn(3, [(0, 1), (0, 2)]), drawn(3, [(1, 0), (2, 0)])))

    def test_all_pairs_of_small_orders_against_all_renamings(self):
        cases = [(size, pairs) for size, pairs in plain.small_cases() if drawn(size, pairs) is not None]
        trees = [drawn(size, pairs) for size, pairs in cases]
        for (size, pairs), tree in zip(cases, trees):
            renamings = {tuple(plain.renamed_pairs(pairs, names)) for names in itertools.permutations(range(size))}
            for (wide, stands), other in zip(cases, trees):
                names = match_trees(tree, other)
                if wide == size and tuple(sorted(stands)) in renamings:
                    self.check_names(tree, other, names)
                else:
                    self.assertIsNone(names)

    def test_pairs_of_orders_of_five_and_six_elements_against_all_renamings(self):
        for size, every, step in ((5, plain.natural_pairs(5), 7), (6, plain.natural_pairs(6), 131)):
            cases = [pairs for pairs in every if drawn(size, pairs) is not None]
            for pairs in cases[::step]:
                tree = drawn(size, pairs)
                renamings = {tuple(plain.renamed_pairs(pairs, names)) for names in itertools.permutations(range(size))}
                for stands in cases:
                    names = match_trees(tree, drawn(size, stands))
                    self.assertEqual(names is not None, tuple(sorted(stands)) in renamings)
                    if names is not None:
                        self.check_names(tree, drawn(size, stands), names)

    def test_large_trees_renamed(self):
        rng = random.Random(46)
        for tree in loose_trees(47, (10, 25, 40), 30):
            self.check_renamed(rng, drawn(len(plain.tree_members(tree)), plain.tree_pairs(tree)))

    def test_large_trees_with_one_pair_changed(self):
        rng = random.Random(48)
        for loose in loose_trees(49, (12, 40), 30):
            size, pairs = len(plain.tree_members(loose)), sorted(plain.tree_pairs(loose))
            tree = drawn(size, pairs)
            for gone in rng.sample(pairs, min(8, len(pairs))):
                other = drawn(size, [pair for pair in pairs if pair != gone])
                if other is not None:
                    self.check(tree, other)
                    self.check(other, tree)

    def test_many_alike_parts(self):
        rng = random.Random(50)
        forks = [pair for e in range(0, 39, 3) for pair in ((e, e + 1), (e, e + 2))]
        twos = [(e, e + 1) for e in range(0, 40, 2)]
        fours = [(e + a, e + b) for e in range(0, 40, 4) for a, b in ((0, 1), (0, 2), (1, 3), (2, 3))]
        levels = [(a, b) for a in range(40) for b in range(40) if a // 5 < b // 5]
        for pairs in (forks, twos, fours, levels, [], [(e, e + 1) for e in range(39)]):
            self.check_renamed(rng, drawn(40, pairs))
        # As many parts of the same sizes, one of which is upside down.
        turned = [(high, low) if high == 38 or (low, high) == (36, 37) else (low, high) for low, high in forks]
        self.assertIsNone(match_trees(drawn(40, forks), drawn(40, turned)))
        self.assertIsNone(match_trees(drawn(40, twos), drawn(40, twos[1:])))
        self.assertIsNone(match_trees(drawn(40, fours), drawn(40, fours[1:] + [(0, 3)])))

    def test_the_same_parts_put_together_otherwise(self):
        # Two chains of two and two of one, beside or above one another in different ways.
        one = drawn(6, [(0, 1), (2, 3), (4, 0), (4, 1), (5, 2), (5, 3)])
        other = drawn(6, [(0, 1), (2, 3), (4, 0), (4, 1), (2, 5), (3, 5)])
        third = drawn(6, [(0, 1), (2, 3), (0, 4), (1, 4), (2, 5), (3, 5)])
        for first, second in itertools.permutations((one, other, third), 2):
            self.check(first, second)
        self.assertIsNone(match_trees(drawn(3, [(0, 1), (0, 2)]), drawn(3, [(0, 2), (1, 2)])))
        self.assertIsNone(match_trees(drawn(4, [(0, 1), (2, 3)]), drawn(4, [(0, 1), (1, 2)])))

    def test_trees_nested_as_deep_as_forty_elements_allow(self):
        rng = random.Random(51)
        trees = []
        for words in (WORDS, WORDS[::-1]):
            for turn in range(5):
                steps = [(words[at % 2], 1, rng.random() < 0.5) for at in range(39)]
                tree = deep_numbers(steps)[0]
                trees.append(drawn(40, plain.tree_pairs(tree)))
                self.check_renamed(rng, trees[-1])
        for one, other in itertools.product(trees, repeat=2):
            self.check(one, other)


if __name__ == "__main__":
    unittest.main()
