"""Points 2, 4 and 9 to 12 for the judge, and the section drawnorders/judge.py of the interface."""

import copy
import itertools
import random
import unittest

from drawnorders.drawings import KINDS
from drawnorders.judge import takes
from drawnorders.kinds import draw
from drawnorders.order import Order

import plain
from plainthings import FAR, changed, odd_things, random_drawing
from plaintrees import WORDS, deep_numbers, depth

# Three below and three above, each of which is above two of the others.
CROWN = [(low, 3 + high) for low in range(3) for high in range(3) if low != high]


def told(facts, kind, verdict, thing):
    """What the judge must say, point by point."""
    if verdict:
        return plain.order_told(kind, thing) == (facts.size, facts.stands)
    return plain.is_paper(kind, facts, thing)


class JudgeTest(unittest.TestCase):

    def check(self, order, facts, kind, verdict, thing):
        before = copy.deepcopy(thing)
        found = takes(order, kind, verdict, thing)
        self.assertIs(found, told(facts, kind, verdict, thing), (kind, verdict, facts.size, facts.given))
        self.assertTrue(before == thing)
        return found

    def check_both(self, order, facts, kind, thing):
        """No thing is taken with both verdicts. Returns True if it is taken with one of them."""
        taken = [self.check(order, facts, kind, verdict, thing) for verdict in (True, False)]
        self.assertLess(taken.count(True), 2)
        return True in taken


def cases():
    return plain.small_cases()[::2] + plain.five_cases()[::40] + plain.six_cases()[::60]


class AnswersTest(JudgeTest):

    def check_answers(self, size, pairs):
        order, facts = Order(size, pairs), plain.Facts(size, pairs)
        for kind in KINDS:
            word, paper = draw(order, kind)
            self.assertIs(takes(order, kind, word, paper), True)
            self.assertIs(takes(order, kind, not word, paper), False)
            self.assertTrue(told(facts, kind, word, paper))

    def test_small_orders(self):
        for size, pairs in plain.small_cases() + plain.five_cases()[::3] + plain.six_cases()[::3]:
            self.check_answers(size, pairs)

    def test_larger_orders(self):
        for size, pairs in plain.random_cases(101, (7, 12, 25, 40), 12):
            self.check_answers(size, pairs)

    def test_orders_that_have_drawings(self):
        rng = random.Random(102)
        for kind in KINDS:
            for size in (0, 1, 2, 5, 10, 20, 40):
                for turn in range(4):
                    thing = random_drawing(rng, kind, size)
                    shown = plain.order_told(kind, thing)
                    if shown is not None:
                        order, facts = Order(size, sorted(shown[1])), plain.Facts(size, sorted(shown[1]))
                        self.assertIs(takes(order, kind, True, thing), True)
                        self.assertIs(draw(order, kind)[0], True)
                        self.check_answers(size, sorted(shown[1]))
                        self.check_both(order, facts, kind, thing)

    def test_trees_nested_as_deep_as_a_thing_may_be(self):
        rng = random.Random(103)
        for turn in range(10):
            kinds = [1] * 39 + [rng.choice((0, 2)) for _ in range(10)]
            rng.shuffle(kinds)
            tree = deep_numbers([(rng.choice(WORDS), more, rng.random() < 0.5) for more in kinds])[0]
            self.assertGreaterEqual(depth(tree), 99)
            pairs = sorted(plain.tree_pairs(tree))
            order = Order(40, pairs)
            self.assertIs(takes(order, "joins", True, tree), True)
            self.assertIs(takes(order, "joins", False, tree), False)
            self.check_answers(40, pairs)
            less = Order(40, [pair for pair in plain.closed(40, pairs) if pair != pairs[0]])
            self.assertIs(takes(less, "joins", True, tree), same_pairs(less, pairs))


def same_pairs(order, pairs):
    return order.pairs() == sorted(pairs)


class PapersTest(JudgeTest):
    """Papers, whoever made them."""

    def test_all_tuples_of_small_orders(self):
        taken = 0
        for size, pairs in plain.small_cases()[::5]:
            order, facts = Order(size, pairs), plain.Facts(size, pairs)
            for many in (3, 4):
                for thing in itertools.product(range(-1, size + 1) if size < 4 else range(size), repeat=many):
                    for kind in KINDS:
                        taken += self.check(order, facts, kind, False, thing)
        self.assertGreater(taken, 100)

    def test_all_tuples_of_different_elements(self):
        taken = 0
        for size, pairs in plain.five_cases()[::60] + plain.six_cases()[::400]:
            order, facts = Order(size, pairs), plain.Facts(size, pairs)
            for many in (3, 4):
                for thing in itertools.permutations(range(size), many):
                    for kind in KINDS:
                        taken += self.check(order, facts, kind, False, thing)
        self.assertGreater(taken, 100)

    def test_told_by_hand(self):
        order = Order(6, [(0, 1), (1, 2), (3, 4), (5, 4)])
        good = (("levels", (0, 1, 3)), ("levels", (0, 2, 5)), ("forest", (3, 5, 4)), ("forest", (5, 3, 4)),
                ("spans", (0, 1, 3, 4)), ("spans", (0, 2, 5, 4)), ("unit", (0, 1, 3, 4)), ("unit", (0, 1, 2, 3)),
                ("unit", (0, 1, 2, 4)))
        bad = (("levels", (1, 0, 3)), ("levels", (0, 3, 1)), ("levels", (0, 1, 2)), ("forest", (3, 3, 4)), ("forest", (0, 1, 2)),
               ("forest", (4, 3, 5)), ("spans", (0, 1, 1, 2)), ("spans", (3, 4, 5, 4)), ("spans", (0, 1, 4, 3)),
               ("unit", (3, 0, 1, 2)), ("unit", (0, 2, 1, 3)), ("unit", (0, 1, 2, 2)), ("levels", (0, 1, 3, 4)),
               ("levels", (0, 1, 6)), ("levels", (0, 1, -1)), ("levels", (0, 1, FAR)), ("levels", (False, True, 3)),
               ("levels", [0, 1, 3]), ("levels", (0, 1)), ("levels", ()), ("levels", None), ("levels", ((0, 1, 3),)),
               ("spans", (0, 1, 3)), ("spans", (0, 1, 3, 4, 5)), ("spans", (0, 1, 3, (4,))), ("spans", (0, 1, 3, "4")))
        for kind, paper in good:
            self.assertIs(takes(order, kind, False, paper), True, (kind, paper))
        for kind, paper in bad:
            self.assertIs(takes(order, kind, False, paper), False, (kind, paper))

    def test_covers_are_more_than_below(self):
        # 1 is between 0 and 2, so 2 does not cover 0; with covers alone it is the letter N.
        short = Order(5, [(0, 3), (1, 3), (1, 4)])
        long = Order(5, [(0, 3), (1, 2), (2, 3), (1, 4)])
        self.assertIs(takes(short, "arcs", False, (0, 1, 3, 4)), True)
        self.assertIs(takes(long, "arcs", False, (0, 1, 3, 4)), False)
        self.assertIs(takes(long, "joins", False, (0, 1, 3, 4)), True)
        # d is above a, but does not cover it.
        above = Order(5, [(0, 2), (1, 2), (1, 3), (0, 4), (4, 3)])
        self.assertIs(takes(above, "arcs", False, (0, 1, 2, 3)), True)
        self.assertIs(takes(above, "joins", False, (0, 1, 2, 3)), False)

    def test_rings_of_arcs(self):
        crown = Order(6, CROWN)
        ring = draw(crown, "rows")[1]
        facts = plain.Facts(6, crown.pairs())
        self.assertIs(takes(crown, "rows", False, ring), True)
        self.assertIs(takes(crown, "rows", False, ring[::-1]), True)
        self.assertIs(takes(crown, "rows", False, tuple((b, a) for a, b in ring)), True)
        self.assertIs(takes(crown, "rows", False, ring + ring[1:-1][::-1] + ring[:1]), False)
        there_and_back = ring + ring[:-1][::-1] + ring[1:]
        self.assertIs(takes(crown, "rows", False, there_and_back), True)
        for at in range(len(ring)):
            self.check(crown, facts, "rows", False, ring[:at] + ring[at + 1:])
            self.check(crown, facts, "rows", False, ring[at:])
            self.check(crown, facts, "rows", False, ring[:at])
            self.check(crown, facts, "rows", False, ring[:at] + (list(ring[at]),) + ring[at + 1:])
            self.check(crown, facts, "rows", False, ring[:at] + (ring[at][::-1],) + ring[at + 1:])
            self.check(crown, facts, "rows", False, ring[:at] + (ring[at],) + ring[at:])
        for thing in ((), [], list(ring), ((0, 1),), ((0, 1), (1, 0)), ((0, 0),), (ring,), ring + ((),), ((0, 4), (4, 0)), ((0, 3),)):
            self.assertIs(takes(crown, "rows", False, thing), False)

    def test_rings_of_many_arcs(self):
        # There and back again as often as one likes.
        crown = Order(6, CROWN)
        ring = draw(crown, "rows")[1]
        long = (ring + ring[:-1][::-1]) * 1
        for turn in range(100):
            long = long + ring[1:] + ring[:-1][::-1]
        self.assertIs(takes(crown, "rows", False, long + ring[1:]), True)
        self.assertIs(takes(crown, "rows", False, long), False)

    def test_rings_of_pairs_that_are_comparable(self):
        # Each of these pairs would force the next one, were they arcs.
        chain = Order(3, [(0, 1), (1, 2)])
        self.assertIs(takes(chain, "rows", False, ((0, 1), (0, 2), (1, 2), (1, 0))), False)

    def test_rings_of_arcs_that_force_nothing(self):
        loose = Order(3, [])
        self.assertIs(takes(loose, "rows", False, ((0, 1), (0, 2), (1, 2), (1, 0))), False)
        self.assertIs(takes(loose, "rows", False, ((0, 1), (2, 1), (2, 0), (1, 0))), False)

    def test_rings_that_are_nearly_right(self):
        """The shortest rings, where one of the conditions of point 11 need not hold."""
        taken = []
        rng = random.Random(109)
        crowns = [(6, plain.renamed_pairs(CROWN, plain.shuffled_names(rng, 6))) for turn in range(5)]
        for size, pairs in crowns + cases() + plain.random_cases(110, (7, 8), 10):
            order, facts = Order(size, pairs), plain.Facts(size, pairs)
            couples = list(itertools.permutations(range(size), 2))
            arcs = [arc for arc in couples if facts.apart(*arc)]
            near = [
                (couples, lambda a, b: plain.forces(facts, a, b)),
                (arcs, lambda a, b: plain.forces(facts, a, b)),
                (arcs, lambda a, b: plain.forces(facts, a, b) or (a[0] == b[0] and a[1] != b[1])),
                (arcs, lambda a, b: plain.forces(facts, a, b) or (a[1] == b[1] and a[0] != b[0])),
                (arcs, lambda a, b: plain.forces(facts, a, b) or a[0] == b[1])]
            for some, leads in near:
                ring = self.shortest_ring(some, leads)
                if ring is not None:
                    taken.append(self.check(order, facts, "rows", False, ring))
        self.assertGreater(taken.count(True), 3)
        self.assertGreater(taken.count(False), 100)

    def shortest_ring(self, arcs, leads):
        """A shortest tuple of arcs from the first one of them to the same one reversed, or None."""
        ways = [[arc] for arc in arcs[:1]]
        seen = set(arcs[:1])
        for way in ways:
            if way[-1] == arcs[0][::-1]:
                return tuple(way)
            for arc in arcs:
                if arc not in seen and leads(way[-1], arc):
                    seen.add(arc)
                    ways.append(way + [arc])
        return None

    def test_walks_of_arcs(self):
        rng = random.Random(104)
        taken = 0
        for size, pairs in [(6, CROWN)] * 10 + cases()[-40:]:
            order, facts = Order(size, pairs), plain.Facts(size, pairs)
            arcs = [arc for arc in itertools.permutations(range(size), 2) if facts.apart(*arc)]
            for turn in range(40 if arcs else 0):
                walk = [rng.choice(arcs)]
                for step in range(rng.randrange(1, 14)):
                    ahead = [arc for arc in arcs if plain.forces(facts, walk[-1], arc)]
                    walk.append(rng.choice(ahead if ahead and rng.random() < 0.97 else arcs))
                    taken += self.check(order, facts, "rows", False, tuple(walk))
        self.assertGreater(taken, 5)


class AnyThingsTest(JudgeTest):

    def test_small_changes(self):
        rng = random.Random(105)
        for kind in KINDS:
            taken = []
            for size, pairs in cases() + plain.random_cases(106, (8, 40), 4):
                order, facts = Order(size, pairs), plain.Facts(size, pairs)
                word, paper = draw(order, kind)
                for turn in range(6):
                    thing = paper
                    for change in range(rng.randrange(1, 3)):
                        thing = changed(rng, thing)
                    taken.append(self.check_both(order, facts, kind, thing))
            self.assertGreater(taken.count(True), 10, kind)
            self.assertGreater(taken.count(False), 10, kind)

    def test_answers_to_other_kinds_and_of_other_orders(self):
        rng = random.Random(107)
        some = [case for case in cases() if case[0] > 1]
        for turn in range(500):
            (size, pairs), (wide, stands) = rng.sample(some, 2)
            order, facts = Order(size, pairs), plain.Facts(size, pairs)
            kind, other = rng.choice(KINDS), rng.choice(KINDS)
            self.check_both(order, facts, kind, draw(order, other)[1])
            self.check_both(order, facts, kind, draw(Order(wide, stands), kind)[1])
            self.check_both(order, facts, kind, draw(Order(wide, stands), other)[1])

    def test_drawings_of_an_order_that_draw_does_not_draw(self):
        order = Order(3, [(0, 1)])
        good = (("arcs", ((7, 9), (9, 2), (3, 2))), ("arcs", ((-1, FAR), (FAR, 0), (1, 2))), ("spans", ((-5, 0), (1, 1), (0, FAR))),
                ("unit", (5, (0, 6, 1))), ("unit", (FAR, (-1, FAR, 0))), ("rows", ((2, 0, 1), (0, 1, 2))),
                ("joins", ("beside", (("one", 2), ("beside", (("above", (("one", 0), ("above", ()), ("one", 1))),))))))
        bad = (("arcs", ((7, 9), (9, 2), (2, 7))), ("arcs", ((7, 9), (9, 2), (2, 3))), ("spans", ((-5, 0), (1, 1), (-9, -8))), ("unit", (5, (0, 6, 0, 0))),
               ("rows", ((2, 0, 1), (2, 0, 1))), ("joins", ("beside", (("one", 2), ("one", 0), ("one", 1)))),
               ("forest", (None, 0)), ("levels", (0, 1, 1)))
        for kind, thing in good:
            self.assertIs(takes(order, kind, True, thing), True, (kind, thing))
        for kind, thing in bad:
            self.assertIs(takes(order, kind, True, thing), False, (kind, thing))

    def test_random_drawings_of_other_orders(self):
        rng = random.Random(108)
        for kind in KINDS:
            for size, pairs in cases()[::6]:
                order, facts = Order(size, pairs), plain.Facts(size, pairs)
                for turn in range(10):
                    self.check_both(order, facts, kind, random_drawing(rng, kind, size))

    def test_other_verdicts(self):
        order = Order(3, [(0, 1)])
        for verdict in (None, 0, 1, "True", ()):
            for paper in ((0, 1, 2), (None, 0, None), draw(order, "levels")[1]):
                for kind in ("levels", "forest"):
                    self.assertIs(takes(order, kind, verdict, paper), False)

    def test_odd_things(self):
        things = odd_things()
        for size, pairs in ((0, []), (1, []), (2, []), (2, [(0, 1)]), (4, [(0, 1), (2, 3)]), (40, [(0, 1)])):
            order, facts = Order(size, pairs), plain.Facts(size, pairs)
            for kind in KINDS:
                for thing in things:
                    self.check_both(order, facts, kind, thing)

    def test_drawings_of_more_than_forty_elements(self):
        order = Order(40, [])
        for many in (41, 300):
            row = tuple(range(many))
            for kind, thing in (("levels", (0,) * many), ("forest", (None,) * many), ("arcs", ((0, 1),) * many),
                                ("spans", ((0, 0),) * many), ("unit", (0, (0,) * many)), ("rows", (row, row[::-1])),
                                ("joins", ("beside", tuple(("one", e) for e in row)))):
                self.assertIs(takes(order, kind, True, thing), False)
                self.assertIs(takes(order, kind, False, thing), False)


if __name__ == "__main__":
    unittest.main()
