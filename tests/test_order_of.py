"""Points 4, 9 and 10, and the section drawnorders/drawings.py of the interface."""

import copy
import itertools
import random
import unittest

from drawnorders import drawings
from drawnorders.drawings import KINDS, order_of
from drawnorders.errors import BadDrawing
from drawnorders.joins import draw_joins
from drawnorders.order import Order
from drawnorders.trees import tree_height, tree_lots, tree_rows, tree_width

import plain
from plainthings import FAR, changed, nested, odd_things, random_drawing
from plaintrees import WORDS, deep_numbers, depth, loose_trees


class OrderOfTest(unittest.TestCase):

    def check(self, kind, thing, drawn=None):
        """The order of a thing, or BadDrawing, as the test tells it. Returns True if it is a drawing."""
        told = plain.order_told(kind, thing)
        before = copy.deepcopy(thing)
        if drawn is not None:
            self.assertIs(told is not None, drawn)
        if told is None:
            with self.assertRaises(BadDrawing) as caught:
                order_of(kind, thing)
            self.assertIs(type(caught.exception), BadDrawing)
            self.assertEqual(vars(caught.exception), {})
        else:
            order = order_of(kind, thing)
            self.assertIs(type(order), Order)
            self.assertEqual((order.size, order.pairs()), (told[0], sorted(told[1])))
        self.assertTrue(before == thing)
        return told is not None

    def check_refused(self, kind, *things):
        for thing in things:
            self.check(kind, thing, False)

    def check_shows(self, kind, thing, size, pairs):
        order = order_of(kind, thing)
        self.assertEqual((order.size, order.pairs()), (size, sorted(pairs)))
        self.check(kind, thing, True)


class KindsTest(OrderOfTest):

    def test_the_seven_kinds(self):
        self.assertEqual(KINDS, ("levels", "forest", "joins", "arcs", "spans", "unit", "rows"))
        self.assertIs(type(drawings.KINDS), tuple)

    def test_levels(self):
        self.check_shows("levels", (), 0, [])
        self.check_shows("levels", (-7,), 1, [])
        self.check_shows("levels", (3, -1, 3, FAR), 4, [(1, 0), (1, 2), (1, 3), (0, 3), (2, 3)])
        self.check_refused("levels", (0, None), (0, True), (False,), (0, (1,)), [0, 1], (0, "1"), 3, None, "")

    def test_forest(self):
        self.check_shows("forest", (), 0, [])
        self.check_shows("forest", (None,), 1, [])
        self.check_shows("forest", (None, 0, 1, None, 1), 5, [(0, 1), (1, 2), (1, 4), (0, 2), (0, 4)])
        self.check_refused("forest", (0,), (1, 0), (1, 2, 0), (None, 2), (None, -1), (None, FAR), (None, False),
                           (None, "0"), [None], None, (None, (0,)), (None, 2, 1), (None, 0, 2))

    def test_joins(self):
        self.check_shows("joins", ("beside", ()), 0, [])
        self.check_shows("joins", ("above", ()), 0, [])
        self.check_shows("joins", ("one", 0), 1, [])
        self.check_shows("joins", ("above", (("beside", ()), ("one", 0))), 1, [])
        self.check_shows("joins", ("above", (("beside", (("one", 2), ("one", 0))), ("one", 1))), 3, [(2, 1), (0, 1)])
        self.check_shows("joins", ("above", (("one", 1), ("above", (("one", 2), ("one", 0))))), 3, [(1, 2), (1, 0), (2, 0)])
        self.check_refused("joins", ("one", 1), ("one", -1), ("one", False), ("one", FAR), ("one", None), ("one",),
                           ("two", 0), ["one", 0], ("beside", [("one", 0)]), ("beside", (["one", 0],)), ("above", None),
                           ("beside", (("one", 0), ("one", 0))), ("beside", (("one", 0), ("one", 2))), ("beside", ("one", 0)),
                           ("beside", (("one", 1), ("one", 2))), (), (()), None, "one", ("beside", (), ()), ("one", 0, 0))

    def test_arcs(self):
        self.check_shows("arcs", (), 0, [])
        self.check_shows("arcs", ((5, -3),), 1, [])
        self.check_shows("arcs", ((1, 2), (2, 0), (0, FAR), (1, FAR)), 4, [(0, 1), (1, 2), (0, 2)])
        self.check_refused("arcs", ((1, 1),), ((0, 1), (1, 0)), ((0, 1), (1, 2), (2, 0)), ((0, 1, 2),), ((0,),), ([0, 1],),
                           [(0, 1)], ((0, True),), ((None, 1),), (0, 1), ((0, 1), ()), None)

    def test_spans(self):
        self.check_shows("spans", (), 0, [])
        self.check_shows("spans", ((2, 2),), 1, [])
        self.check_shows("spans", ((0, 4), (-9, -1), (5, FAR), (4, 4)), 4, [(1, 0), (1, 2), (1, 3), (0, 2), (3, 2)])
        self.check_refused("spans", ((1, 0),), ((0, 1), (3, 2)), ((0, 1, 2),), ([0, 1],), [(0, 1)], ((False, 1),), (1,), None)

    def test_unit(self):
        self.check_shows("unit", (0, ()), 0, [])
        self.check_shows("unit", (FAR, (3,)), 1, [])
        self.check_shows("unit", (2, (0, 2, 3, -FAR)), 4, [(0, 2), (3, 0), (3, 1), (3, 2)])
        self.check_shows("unit", (0, (1, 1, 0)), 3, [(2, 0), (2, 1)])
        self.check_refused("unit", (-1, ()), (-1, (0,)), (-FAR, (0, 1)), (True, (0,)), (1, [0]), [1, (0,)], (1, (None,)),
                           (1,), (1, (0,), 0), ((0,), 1), (), None, (1, 0), (None, (0,)), (1, (True,)))

    def test_rows(self):
        self.check_shows("rows", ((), ()), 0, [])
        self.check_shows("rows", ((0,), (0,)), 1, [])
        self.check_shows("rows", ((2, 0, 1), (0, 2, 1)), 3, [(2, 1), (0, 1)])
        self.check_refused("rows", ((0, 1), (0,)), ((), (0,)), ((0, 0), (0, 1)), ((1,), (1,)), ((0, 2), (2, 0)), [(0,), (0,)],
                           ([0], (0,)), ((0,), [0]), ((0,),), ((0,), (0,), (0,)), ((False,), (0,)), ((0,), (None,)), (), None,
                           ((0, -1), (0, 1)), ((0, FAR), (0, 1)), ((0, 1), (1, (0,))), (0, 0))

    def test_all_small_things_of_each_form(self):
        atoms = (None, True, False, -1, 0, 1, 2)
        for many in range(4):
            for thing in itertools.product(atoms, repeat=many):
                for kind in KINDS:
                    self.check(kind, thing)
        couples = list(itertools.product((0, 1, 2, False), repeat=2)) + [(), (0,), (0, 1, 2), [0, 1], 0]
        for many in range(3):
            for thing in itertools.product(couples, repeat=many):
                for kind in KINDS:
                    self.check(kind, thing)
        for length, starts in itertools.product((-1, 0, 1, 2, None, True), itertools.product((-1, 0, 1, 2), repeat=3)):
            self.check("unit", (length, starts))
        for one, other in itertools.product(itertools.product((0, 1, 2), repeat=3), repeat=2):
            self.check("rows", (one, other))

    def test_random_drawings(self):
        rng = random.Random(81)
        for kind in KINDS:
            drawn = [self.check(kind, random_drawing(rng, kind, size)) for size in range(41) for _ in range(6)]
            self.assertGreater(drawn.count(True), 100)

    def test_parents_and_arcs_with_rings(self):
        rng = random.Random(82)
        for kind in ("forest", "arcs"):
            drawn = [self.check(kind, random_drawing(rng, kind, rng.randrange(2, 12))) for _ in range(600)]
            self.assertGreater(drawn.count(False), 30)

    def test_rings_of_forty(self):
        for size in (2, 3, 40):
            self.check_refused("forest", tuple((e + 1) % size for e in range(size)))
            self.check_refused("arcs", tuple((e, (e + 1) % size) for e in range(size)))
        self.check_shows("arcs", tuple((e, e + 1) for e in range(40)), 40, itertools.combinations(range(40), 2))
        self.check_shows("forest", (None,) + tuple(range(39)), 40, itertools.combinations(range(40), 2))


class SizesTest(OrderOfTest):

    def drawings(self, size):
        ones = tuple(("one", e) for e in range(size))
        row = tuple(range(size))
        yield from (("levels", row), ("levels", (0,) * size), ("forest", (None,) * size), ("forest", (None,) + row[:-1]))
        yield from (("joins", ("beside", ones)), ("joins", ("above", ones)), ("joins", ("above", (("beside", ones), ("above", ())))))
        yield from (("arcs", ((0, 1),) * size), ("arcs", tuple((e, e + 1) for e in row)))
        yield from (("spans", ((0, 0),) * size), ("spans", tuple((e, e) for e in row)))
        yield from (("unit", (0, row)), ("unit", (5, row)), ("rows", (row, row)), ("rows", (row, row[::-1])))

    def test_up_to_forty_elements(self):
        for size in (1, 2, 39, 40):
            for kind, thing in self.drawings(size):
                self.check(kind, thing, True)

    def test_more_than_forty_elements(self):
        for size in (41, 42, 100, 700):
            for kind, thing in self.drawings(size):
                self.check(kind, thing, False)

    def test_many_trees_without_elements(self):
        self.check_shows("joins", ("beside", (("above", ()),) * 500), 0, [])
        self.check_shows("joins", ("above", (("above", ()),) * 500 + (("one", 0),)), 1, [])


class AnyThingsTest(OrderOfTest):

    def test_odd_things(self):
        for thing in odd_things():
            for kind in KINDS:
                self.check(kind, thing)

    def test_things_nested_a_hundred_deep(self):
        for inner in ((), [], (None,), ("one", 0)):
            for make in (lambda at, x: (x,), lambda at, x: [x], lambda at, x: (x, x)[:1 + (at > 95)]):
                thing = nested(98, make, inner)
                for kind in KINDS:
                    self.check_refused(kind, thing)

    def test_drawings_with_small_changes(self):
        rng = random.Random(83)
        for kind in KINDS:
            drawn = []
            for turn in range(700):
                thing = random_drawing(rng, kind, rng.choice((0, 1, 2, 3, 4, 5, 9, 40)))
                for change in range(rng.randrange(1, 3)):
                    thing = changed(rng, thing)
                drawn.append(self.check(kind, thing))
            self.assertGreater(drawn.count(True), 30, kind)
            self.assertGreater(drawn.count(False), 30, kind)

    def test_drawings_of_other_kinds(self):
        rng = random.Random(84)
        for kind, other in itertools.product(KINDS, repeat=2):
            for turn in range(30):
                self.check(other, random_drawing(rng, kind, rng.randrange(6)))

    def test_a_list_that_is_passed_stays(self):
        for thing in ([0, 1], ([0], [1]), ("beside", [("one", 0)]), ([0, 1], (0, 1)), ((0, 1), [1, 0]), [[0, 1], [2, 3]]):
            for kind in KINDS:
                self.check_refused(kind, thing)


class TreesTest(OrderOfTest):

    def test_trees_of_every_form(self):
        for tree in loose_trees(85, range(0, 41), 6):
            self.check("joins", tree, True)

    def test_elements_missing_or_twice(self):
        rng = random.Random(86)
        for tree in loose_trees(87, (3, 8, 40), 30):
            size = len(plain.tree_members(tree))
            old, new = rng.randrange(size), rng.choice((rng.randrange(size), size, size + 1, -1))
            other = self.replaced(tree, old, new)
            self.check("joins", other, old == new or None)
            self.check("joins", ("beside", (tree, ("one", size))), size < 40)
            self.check("joins", ("beside", (tree, ("one", size - 1))), False)

    def replaced(self, tree, old, new):
        if tree[0] == "one":
            return ("one", new if tree[1] == old else tree[1])
        return (tree[0], tuple(self.replaced(part, old, new) for part in tree[1]))

    def test_trees_nested_as_deep_as_a_thing_may_be(self):
        rng = random.Random(88)
        for turn in range(12):
            kinds = [1] * 39 + [rng.choice((0, 2)) for _ in range(10)]
            rng.shuffle(kinds)
            tree, size, *numbers = deep_numbers([(rng.choice(WORDS), more, rng.random() < 0.5) for more in kinds])
            self.assertGreaterEqual(depth(tree), 99)
            self.check("joins", tree, True)
            told = draw_joins(order_of("joins", tree))[1]
            self.check("joins", told, True)
            for one in (tree, told):
                self.assertEqual([ask(one) for ask in (tree_rows, tree_lots, tree_width, tree_height)], numbers)

    def test_a_bit_deeper_than_a_thing_may_be(self):
        for deep in (50, 60):
            tree = nested(deep, lambda at, x: (WORDS[at % 2], (x,)), ("one", 0))
            self.assertGreater(depth(tree), 100)
            self.check("joins", tree, True)
            self.check("joins", nested(deep, lambda at, x: (WORDS[at % 2], (x,)), ("one", 1)), False)


if __name__ == "__main__":
    unittest.main()
