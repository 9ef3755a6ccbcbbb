"""Point 17, and the section drawnorders/manyrows.py of the interface."""

import copy
import itertools
import random
import time
import unittest

from drawnorders.making import dual
from drawnorders.manyrows import draw_many, least_rows, takes_many
from drawnorders.order import Order
from drawnorders.tworows import draw_rows

import plain
from plainrows import are_rows, crown, crown_tree, is_closing, listed_rows
from plainthings import FAR, changed, nested, odd_things, paths, put
from plaintrees import depth

OTHERS = (None, True, False, 0, 1, -1, 2, 7, FAR, -FAR, "", "ring", "split", "Ring", (), [], (0,), (0, 1), [0, 1], ((),))


def crown_cases():
    """Crowns of six elements, some with one element more among them."""
    rng = random.Random(151)
    cases = [(6, plain.renamed_pairs(crown(3), plain.shuffled_names(rng, 6))) for _ in range(6)]
    for under in list(itertools.product((False, True), repeat=6)) * 3:
        over = [not yes and rng.random() < 0.4 for yes in under]
        pairs = crown(3) + [(e, 6) for e in range(6) if under[e]] + [(6, e) for e in range(6) if over[e]]
        # The first six of them are to stay a crown.
        if sorted(pair for pair in plain.closed(7, pairs) if 6 not in pair) == sorted(crown(3)):
            cases.append((7, plain.renamed_pairs(pairs, plain.shuffled_names(rng, 7))))
    return cases


def seven_cases():
    rng = random.Random(152)
    return [(7, plain.random_pairs(rng, 7, rng.choice((0.0, 0.1, 0.2, 0.3, 0.5, 1.0)))) for _ in range(300)]


def cases():
    return plain.small_cases() + plain.five_cases()[::10] + plain.six_cases()[::12] + crown_cases() + seven_cases()[::3]


def as_list(thing):
    return list(thing) if type(thing) is tuple else thing


def put_in(put_what):
    return lambda old: put_what


def stands(thing, path):
    """What stands at a path in a thing, or None."""
    for at in path:
        if type(thing) is not tuple or at >= len(thing):
            return None
        thing = thing[at]
    return thing


class ManyRowsTest(unittest.TestCase):

    def check_answer(self, facts, count, answer):
        """The answer is a pair of a word and what shows it, by the words of point 17. Returns the word."""
        self.assertIs(type(answer), tuple)
        word, paper = answer
        self.assertIs(type(word), bool)
        if word:
            self.assertTrue(are_rows(facts, count, paper), (facts.given, count, paper))
        else:
            self.assertTrue(is_closing(facts, count, paper), (facts.given, count, paper))
            self.assertLessEqual(depth(paper), 90)
        return word

    def check(self, order, facts, count, verdict, thing):
        """The judge says what point 17 tells, and leaves the thing as it is. Returns what it says."""
        before = copy.deepcopy(thing)
        found = takes_many(order, count, verdict, thing)
        told = are_rows(facts, count, thing) if verdict else is_closing(facts, count, thing)
        self.assertIs(found, told, (facts.size, facts.given, count, verdict))
        self.assertTrue(before == thing)
        return found

    def check_both(self, order, facts, count, thing):
        """No thing is taken with both verdicts. Returns True if it is taken with one of them."""
        taken = [self.check(order, facts, count, verdict, thing) for verdict in (True, False)]
        self.assertLess(taken.count(True), 2)
        return True in taken


class DrawManyTest(ManyRowsTest):

    def check_order(self, size, pairs):
        """All counts from 1 to 4, and the least number. Returns the least number."""
        order, facts = Order(size, pairs), plain.Facts(size, pairs)
        least, rows, tree = least_rows(order)
        self.assertTrue(are_rows(facts, least, rows))
        if least == 1:
            self.assertIsNone(tree)
        else:
            self.check_answer(facts, least - 1, (False, tree))
        self.assertIs(least == 1, not any(facts.apart(a, b) for a, b in itertools.combinations(range(size), 2)))
        self.assertIs(least <= 2, draw_rows(order)[0])
        for count in (1, 2, 3, 4):
            start = time.time()
            answer = draw_many(order, count)
            self.assertLess(time.time() - start, 5)
            self.assertIs(self.check_answer(facts, count, answer), least <= count, (size, pairs, count))
            self.assertIs(takes_many(order, count, *answer), True)
            self.assertIs(takes_many(order, count, not answer[0], answer[1]), False)
        self.assertEqual(order.pairs(), sorted(facts.stands))
        return least

    def test_up_to_five_elements(self):
        found = [self.check_order(size, pairs) for size, pairs in plain.small_cases() + plain.five_cases()[::2]]
        self.assertEqual(sorted(set(found)), [1, 2])

    def test_six_elements(self):
        found = [self.check_order(size, pairs) for size, pairs in plain.six_cases()[::2]]
        self.assertEqual(sorted(set(found)), [2, 3])

    def test_seven_elements(self):
        found = [self.check_order(size, pairs) for size, pairs in seven_cases()]
        self.assertEqual(sorted(set(found)), [1, 2, 3])

    def test_crowns(self):
        found = [self.check_order(size, pairs) for size, pairs in crown_cases()]
        self.assertEqual(set(found), {3})
        self.assertGreater(len(found), 40)

    def test_told_by_hand(self):
        self.assertEqual(draw_many(Order(0, []), 3), (True, ((), (), ())))
        self.assertEqual(draw_many(Order(1, []), 2), (True, ((0,), (0,))))
        self.assertEqual(draw_many(Order(2, [(1, 0)]), 1), (True, ((1, 0),)))
        self.assertEqual(draw_many(Order(2, [(1, 0)]), 2), (True, ((1, 0), (1, 0))))
        self.assertIn(draw_many(Order(2, []), 2), ((True, ((0, 1), (1, 0))), (True, ((1, 0), (0, 1)))))
        word, tree = draw_many(Order(2, []), 1)
        rings = [("ring", 0, (0, 1)), ("ring", 0, (1, 0))]
        self.assertIs(word, False)
        self.assertIn(tree, [("split", (a, 1 - a), (("split", (1 - a, a), (ring,)),)) for a in (0, 1) for ring in rings])
        self.assertEqual(least_rows(Order(0, [])), (1, ((),), None))
        self.assertEqual(least_rows(Order(1, [])), (1, ((0,),), None))
        self.assertEqual(least_rows(Order(4, [(2, 1), (1, 3), (3, 0)])), (1, ((2, 1, 3, 0),), None))
        self.assertEqual(least_rows(Order(7, []))[0], 2)
        self.assertEqual(least_rows(Order(6, crown(3)))[0], 3)

    def test_two_rows_are_drawn_just_by_two_rows(self):
        """Of all tuples of two rows of an order some draw it exactly if draw_many finds two."""
        for size, pairs in plain.small_cases()[::4] + plain.six_cases()[::200] + crown_cases()[:2]:
            facts = plain.Facts(size, pairs)
            rows = list(listed_rows(facts))
            some = any(are_rows(facts, 2, two) for two in itertools.product(rows[:30], rows))
            if some or len(rows) <= 30:
                self.assertIs(draw_many(Order(size, pairs), 2)[0], some)

    def test_the_dual_order_takes_as_many_rows(self):
        for size, pairs in cases()[::3]:
            order = Order(size, pairs)
            self.assertEqual(least_rows(order)[0], least_rows(dual(order))[0])

    def test_renamed_orders_take_as_many_rows(self):
        rng = random.Random(153)
        for size, pairs in cases()[::5]:
            names = plain.shuffled_names(rng, size)
            self.assertEqual(least_rows(Order(size, pairs))[0], least_rows(Order(size, plain.renamed_pairs(pairs, names)))[0])


class TakesManyTest(ManyRowsTest):

    def test_answers_with_other_counts(self):
        taken = []
        for size, pairs in cases()[::4]:
            order, facts = Order(size, pairs), plain.Facts(size, pairs)
            for count in (1, 2, 3, 4):
                paper = draw_many(order, count)[1]
                for other in range(1, 11):
                    taken.append(self.check_both(order, facts, other, paper))
        self.assertGreater(taken.count(True), 100)
        self.assertGreater(taken.count(False), 100)

    def test_answers_of_other_orders(self):
        rng = random.Random(154)
        some = [case for case in cases() if case[0] > 1]
        for turn in range(300):
            (size, pairs), (wide, stands) = rng.sample(some, 2)
            count = rng.randrange(1, 4)
            self.check_both(Order(size, pairs), plain.Facts(size, pairs), count, draw_many(Order(wide, stands), count)[1])

    def test_small_changes(self):
        rng = random.Random(155)
        taken = []
        for size, pairs in cases()[::2]:
            order, facts = Order(size, pairs), plain.Facts(size, pairs)
            for count in (1, 2, 3):
                paper = draw_many(order, count)[1]
                for turn in range(6):
                    thing = paper
                    for change in range(rng.randrange(1, 3)):
                        thing = changed(rng, thing)
                    taken.append(self.check_both(order, facts, count, thing))
        self.assertGreater(taken.count(True), 10)
        self.assertGreater(taken.count(False), 500)

    def trees(self):
        """Orders with a count and a closing tree."""
        found = []
        for size, pairs in ((2, []), (3, [(0, 1)]), (4, [(0, 2), (1, 2), (1, 3)]), (5, [])):
            found.append((size, pairs, 1, draw_many(Order(size, pairs), 1)[1]))
        for size, pairs in crown_cases()[::9]:
            found.append((size, pairs, 2, draw_many(Order(size, pairs), 2)[1]))
        found.append((6, crown(3), 2, crown_tree(3, 2)))
        found.append((8, crown(4), 3, crown_tree(4, 3)))
        return found

    def test_closing_trees_with_one_thing_replaced(self):
        rng = random.Random(156)
        taken = []
        for size, pairs, count, tree in self.trees():
            order, facts = Order(size, pairs), plain.Facts(size, pairs)
            self.assertIs(self.check(order, facts, count, False, tree), True)
            spots = paths(tree)
            for path in rng.sample(spots, min(60, len(spots))):
                for other in OTHERS + tuple(range(size)):
                    taken.append(self.check(order, facts, count, False, put(tree, path, put_in(other))))
                self.check_both(order, facts, count, put(tree, path, as_list))
                taken.append(self.check(order, facts, count, False, put(tree, path, lambda old: changed(rng, old))))
        self.assertGreater(taken.count(True), 50)
        self.assertGreater(taken.count(False), 5000)

    def test_true_is_no_element_and_no_row(self):
        loose = Order(2, [])
        good = ("split", (0, 1), (("split", (1, 0), (("ring", 0, (0, 1)),)),))
        self.assertIs(takes_many(loose, 1, False, good), True)
        for path, other in (([1, 0], False), ([1, 1], True), ([2, 0, 1, 0], True), ([2, 0, 1, 1], False),
                            ([2, 0, 2, 0, 1], False), ([2, 0, 2, 0, 2, 0], False), ([2, 0, 2, 0, 2, 1], True)):
            thing = put(good, path, put_in(other))
            self.assertEqual(thing, good)
            self.assertIs(takes_many(loose, 1, False, thing), False)
        self.assertIs(takes_many(loose, 2, True, ((0, 1), (1, 0))), True)
        self.assertIs(takes_many(loose, 2, True, ((False, True), (1, 0))), False)
        self.assertIs(takes_many(loose, 2, True, ((0, 1), (True, 0))), False)

    def test_closing_trees_with_a_tree_left_out_doubled_or_exchanged(self):
        taken = []
        for size, pairs, count, tree in self.trees():
            order, facts = Order(size, pairs), plain.Facts(size, pairs)
            splits = [path for path in paths(tree) if stands(tree, path + [0]) == "split"]
            for path in splits[:40]:
                def below(change):
                    return put(tree, path, lambda old: (old[0], old[1], change(old[2])))
                for change in (lambda trees: trees[1:], lambda trees: trees[:-1], lambda trees: trees + trees[:1],
                               lambda trees: trees * 2, lambda trees: trees[::-1], lambda trees: (tree,) * count,
                               lambda trees: trees[:1] * count, lambda trees: trees[-1:] * count):
                    taken.append(self.check(order, facts, count, False, below(change)))
                self.check(order, facts, count, False, put(tree, path, lambda old: tree))
                self.check(order, facts, count, False, put(tree, path, lambda old: (old[0], old[1][::-1], old[2])))
        self.assertGreater(taken.count(True), 20)
        self.assertGreater(taken.count(False), 300)

    def test_rings(self):
        # Two beside two; with no list only what is below may stand in a ring.
        order, facts = Order(4, [(0, 1), (2, 3)]), plain.Facts(4, [(0, 1), (2, 3)])

        def inner(ring):
            return ("split", (1, 2), (("split", (3, 0), (ring,)),))

        for elements, word in (((0, 1, 2, 3), True), ((2, 3, 0, 1), True), ((3, 0, 1, 2), True), ((3, 2, 1, 0), False),
                               ((0, 1), False), ((0,), False), ((), False), ((0, 1, 2, 3, 0), False), ((0, 2, 3, 1), False),
                               ((0, 1, 2, 3, 0, 1, 2, 3), False), ((0, 1, 2), False), ((1, 2, 3, 0), True), ((1, 2), False),
                               ((0, 1, 2, 4), False), ((0, 1, 2, -1), False), ([0, 1, 2, 3], False), ((0, 1, 2, FAR), False),
                               ((0, 1, 2, "3"), False), ((0, 1, 2, None), False), ((0, 1, 2, (3,)), False)):
            self.assertIs(self.check(order, facts, 1, False, inner(("ring", 0, elements))), word, elements)
        for row in (1, -1, FAR, False, None, "0", (0,)):
            self.assertIs(self.check(order, facts, 1, False, inner(("ring", row, (0, 1, 2, 3)))), False)
        for ring in (("ring", 0), ("ring", 0, (0, 1, 2, 3), ()), ["ring", 0, (0, 1, 2, 3)], ("rings", 0, (0, 1, 2, 3)),
                     ("split", 0, (0, 1, 2, 3)), (None, 0, (0, 1, 2, 3)), ((0, 1, 2, 3),), (0, "ring", (0, 1, 2, 3))):
            self.assertIs(self.check(order, facts, 1, False, inner(ring)), False)
        # A pair in the list of one row is no pair of another one.
        loose, none = Order(2, []), plain.Facts(2, [])
        for one, other in itertools.product((0, 1), repeat=2):
            tree = ("split", (0, 1), (("ring", one, (0, 1)), ("ring", other, (0, 1))))
            self.assertIs(self.check(loose, none, 2, False, tree), False)

    def test_pairs_that_are_not_apart(self):
        """With such a pair in a split a ring would be easy to have."""
        for size, pairs in cases()[::6]:
            order, facts = Order(size, pairs), plain.Facts(size, pairs)
            for a, b in itertools.product(range(size), repeat=2):
                for count in (1, 2):
                    rings = [("ring", row, ring) for row in range(count) for ring in ((a,), (a, b))]
                    for some in itertools.product(rings, repeat=count):
                        self.assertIs(self.check(order, facts, count, False, ("split", (a, b), some)), False)
                        self.assertIs(self.check(order, facts, count, False, ("split", (b, a), some)), False)

    def test_rows_changed(self):
        rng = random.Random(157)
        taken = []
        for size, pairs in cases()[::2]:
            order, facts = Order(size, pairs), plain.Facts(size, pairs)
            least, rows, _ = least_rows(order)
            at = rng.randrange(least)
            for thing in (rows[:at] + rows[at + 1:], rows + rows[at:at + 1], rows[::-1], rows + rows, rows * 3,
                          rows[:at] + (rows[at][::-1],) + rows[at + 1:], rows[:at] + rows[:1] + rows[at + 1:],
                          rows + (tuple(range(size)),), rows + (rows[0][::-1],), list(rows), rows + ((),), rows + (None,),
                          rows[:at] + (list(rows[at]),) + rows[at + 1:], rows[:at] + (rows[at] + rows[at][:1],) + rows[at + 1:],
                          rows[:at] + (rows[at][1:],) + rows[at + 1:], rows[0], (rows,), rows[:at] + ((0,) * size,) + rows[at + 1:],
                          rows[:at] + (rows[at][1:] + (size,),) + rows[at + 1:], rows[:at] + (rows[at] + (size,),) + rows[at + 1:]):
                for count in (least, len(thing), least + 1):
                    if 1 <= count <= 10:
                        taken.append(self.check_both(order, facts, count, thing))
        self.assertGreater(taken.count(True), 500)
        self.assertGreater(taken.count(False), 500)

    def test_drawn_rows(self):
        rng = random.Random(158)
        taken = []
        for turn in range(300):
            size, count = rng.choice((2, 3, 5, 40)), rng.randrange(1, 11)
            lines = tuple(tuple(plain.shuffled_names(rng, size)) for _ in range(count))
            if turn % 3:
                lines = tuple(rng.choice(lines[:2]) for _ in range(count))
            ahead = [(a, b) for a, b in itertools.permutations(range(size), 2)
                     if all(line.index(a) < line.index(b) for line in lines)]
            order, facts = Order(size, ahead), plain.Facts(size, ahead)
            self.assertIs(self.check(order, facts, count, True, lines), True)
            taken.append(self.check(order, facts, count, True, lines[:-1] + (lines[-1][::-1],)))
            if ahead:
                less = [pair for pair in ahead if pair != rng.choice(ahead)]
                self.assertIs(self.check(Order(size, less), plain.Facts(size, less), count, True, lines), len(set(plain.closed(size, less))) == len(ahead))
        self.assertGreater(taken.count(False), 100)

    def test_counts_to_ten(self):
        for half in (2, 3, 4, 5, 6, 7):
            order, facts = Order(2 * half, crown(half)), plain.Facts(2 * half, crown(half))
            for count in range(1, half):
                if half < 6 or count < 3 or count == half - 1:
                    tree = crown_tree(half, count)
                    self.assertIs(takes_many(order, count, False, tree), True)
                    self.assertIs(takes_many(order, count + 1, False, tree), False)
                    self.assertIs(takes_many(order, count, True, tree), False)
                    turned = put(tree, [2, 0, 2, 0, 1], lambda old: old[::-1] if type(old) is tuple else old + 1)
                    self.check(order, facts, count, False, turned)
        rows = tuple(tuple(plain.shuffled_names(random.Random(k), 40)) for k in range(9)) + (tuple(range(40)),)
        order = Order(40, [])
        self.check(order, plain.Facts(40, []), 10, True, rows)
        self.check(order, plain.Facts(40, []), 10, True, rows[:9] + (rows[0][::-1],))
        ring = ("ring", 9, (0, 1))
        self.assertIs(takes_many(order, 10, False, ("split", (0, 1), (ring,) * 10)), False)
        self.assertIs(takes_many(order, 10, False, ring), False)

    def test_papers_nested_as_deep_as_a_thing_may_be(self):
        loose, none = Order(3, [(0, 1)]), plain.Facts(3, [(0, 1)])
        for deep, ring, word in ((48, (0, 2), True), (48, (0, 1), False), (49, (0, 2), True), (30, (2, 0), True), (30, (0, 1, 2), False)):
            tree = ("split", (2, 0), (("ring", 0, ring),))
            for turn in range(deep - 1):
                tree = ("split", (0, 2), (tree,))
            if deep < 49:
                self.assertLessEqual(depth(tree), 98)
            self.assertIs(self.check(loose, none, 1, False, tree), word)
        # One ring of a closing tree for two rows, put off by splits that nothing needs.
        order, facts = Order(6, crown(3)), plain.Facts(6, crown(3))
        tree = crown_tree(3, 2)
        for path in [path for path in paths(tree) if stands(tree, path + [0]) == "ring"]:
            ring = stands(tree, path)
            for row in (0, 1):
                longer = ring
                for turn in range(44):
                    trees = (longer, ring) if turn % 2 else (ring, longer)
                    longer = ("split", ((0, 1), (2, 0), (3, 5), (4, 3))[turn % 4], trees)
                thing = put(tree, path, put_in(longer))
                self.assertLessEqual(depth(thing), 100)
                self.assertIs(self.check(order, facts, 2, False, thing), True)
                wrong = put(thing, path + [2, 1 if turn % 2 else 0, 1], lambda old: 1 - old if type(old) is int else old[::-1])
                self.check(order, facts, 2, False, wrong)

    def test_odd_things(self):
        things = odd_things() + list(OTHERS)
        things += [nested(count, lambda at, x: ("split", (0, 1), (x,))) for count in (1, 20, 49)]
        things += [nested(49, lambda at, x: ("split", (0, 1), (x,)), inner) for inner in (None, "ring", [], ("ring", 0, 0))]
        things += [("split", (0, 1), ()), ("split", (0, 1), None), ("split", (0, 1), "ab"), ("split", 0, ((),)), ("ring", 0, 0),
                   ("ring", 0, "01"), ("split", "01", (("ring", 0, (0, 1)),)), ("ring", (0, 1), (0, 1)), "ring", ("ring",) * 3,
                   ("split",) * 3, ((0, 1), (0, 1), (0, 1)), ((0, 1), (1, 0)), ([0, 1], [1, 0]), [(0, 1), (1, 0)], ("01", "10")]
        for size, pairs in ((0, []), (1, []), (2, []), (2, [(0, 1)]), (4, [(0, 1), (2, 3)]), (40, [(0, 1)])):
            order, facts = Order(size, pairs), plain.Facts(size, pairs)
            for count in (1, 2, 3, 10):
                for thing in things:
                    self.check_both(order, facts, count, thing)

    def test_other_verdicts(self):
        loose = Order(2, [])
        for verdict in (None, 0, 1, "True", ()):
            self.assertIs(takes_many(loose, 2, verdict, ((0, 1), (1, 0))), False)
            self.assertIs(takes_many(loose, 1, verdict, draw_many(loose, 1)[1]), False)


if __name__ == "__main__":
    unittest.main()
