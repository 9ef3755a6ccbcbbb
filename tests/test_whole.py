"""Points 2, 3, 8 and 12 over the whole program: what its parts tell of one another, and that nothing is changed."""

import copy
import random
import unittest

from drawnorders.book import Book
from drawnorders.drawings import KINDS, order_of
from drawnorders.errors import BadDrawing, BadLots, BadPair, BadSize, BadText, NoRow, OrderError, Ring
from drawnorders.forest import draw_forest
from drawnorders.joins import draw_joins
from drawnorders.judge import takes
from drawnorders.kinds import draw, kinds_of
from drawnorders.levels import draw_levels, heights, levels, longest_chain
from drawnorders.lots import closed_lot, is_lot, lot_count, lots, order_of_lots
from drawnorders.making import beside, dual, part, product, renamed, stacked
from drawnorders.manyrows import draw_many, least_rows, takes_many
from drawnorders.netarcs import draw_arcs
from drawnorders.order import Order, same
from drawnorders.rows import is_row, place_counts, row_at, row_count, row_number, rows, swaps
from drawnorders.shape import antichain_cover, chain_cover, shape, shows_antichain_cover, shows_chain_cover
from drawnorders.spans import draw_spans, end_count
from drawnorders.texts import read_order, write_order
from drawnorders.trees import elements_in, match_trees, tree_height, tree_lots, tree_rows, tree_width
from drawnorders.tworows import draw_rows
from drawnorders.unit import draw_unit, least_length, shows_length
from drawnorders.width import (
    fewest_chains, highest_widest, is_antichain, is_chain, lowest_widest, shows_width, width)

import plain
from plaincovers import wide_cases
from plainthings import random_drawing


def small_cases():
    return plain.small_cases()[::3] + plain.five_cases()[::30] + plain.six_cases()[::60]


def drawn_cases(seed, sizes):
    """Orders of all sorts, and orders that have a drawing of each kind."""
    rng = random.Random(seed)
    cases = wide_cases(seed, sizes, 6)
    for kind in KINDS:
        for size in sizes:
            told = plain.order_told(kind, random_drawing(rng, kind, size))
            if told is not None:
                cases.append((size, sorted(told[1])))
    return cases


def words(order):
    return {kind: draw(order, kind)[0] for kind in KINDS}


def is_total(order):
    return not any(order.apart(a, b) for a in range(order.size) for b in range(a))


class AnswersTest(unittest.TestCase):

    def test_exactly_one_of_the_two_answers_is_taken(self):
        for size, pairs in small_cases() + drawn_cases(201, (7, 12, 25, 40)):
            order = Order(size, pairs)
            for kind in KINDS:
                word, paper = draw(order, kind)
                self.assertIs(type(word), bool)
                self.assertIs(takes(order, kind, word, paper), True, (size, pairs, kind))
                self.assertIs(takes(order, kind, not word, paper), False, (size, pairs, kind))
                if word:
                    self.assertTrue(same(order_of(kind, paper), order))
            self.assertEqual(kinds_of(order), [kind for kind in KINDS if words(order)[kind]])

    def test_renamed_orders(self):
        rng = random.Random(202)
        for size, pairs in small_cases() + drawn_cases(203, (7, 12, 40)):
            order = Order(size, pairs)
            other = renamed(order, plain.shuffled_names(rng, size))
            self.check_alike(order, other, KINDS)
            self.assertEqual(end_count(order), end_count(other))

    def test_dual_orders(self):
        forests = 0
        for size, pairs in small_cases() + drawn_cases(204, (7, 12, 40)):
            order = Order(size, pairs)
            other = dual(order)
            self.check_alike(order, other, [kind for kind in KINDS if kind != "forest"])
            if draw(order, "spans")[0]:
                self.assertEqual(end_count(order), end_count(other))
            forests += draw(order, "forest")[0] != draw(other, "forest")[0]
        self.assertGreater(forests, 10)

    def check_alike(self, order, other, kinds):
        mine, yours = words(order), words(other)
        self.assertEqual([mine[kind] for kind in kinds], [yours[kind] for kind in kinds])
        self.assertEqual((width(order), shape(order)), (width(other), shape(other)))
        self.assertEqual(len(longest_chain(order)), len(longest_chain(other)))
        if mine["unit"]:
            self.assertEqual(least_length(order)[0], least_length(other)[0])
        if order.size < 7:
            self.assertEqual(least_rows(order)[0], least_rows(other)[0])
        if order.size < 10:
            self.assertEqual((row_count(order), lot_count(order)), (row_count(other), lot_count(other)))

    def test_parts(self):
        rng = random.Random(205)
        for size, pairs in small_cases() + drawn_cases(206, (7, 12, 40)):
            order = Order(size, pairs)
            members = rng.sample(range(size), rng.randrange(size + 1))
            some = kinds_of(part(order, members))
            for kind in kinds_of(order):
                if kind != "arcs":
                    self.assertIn(kind, some, (size, pairs, members))
        # Without the element in the middle of a chain it is the letter N.
        whole = Order(5, [(0, 3), (1, 2), (2, 3), (1, 4)])
        self.assertEqual((words(whole)["arcs"], words(part(whole, [0, 1, 3, 4]))["arcs"]), (True, False))

    def test_orders_beside_and_above_one_another(self):
        rng = random.Random(207)
        cases = [Order(*case) for case in small_cases() + drawn_cases(208, (1, 2, 3, 7, 12))]
        cases += [Order(0, []), Order(1, []), Order(2, []), Order(2, [(0, 1)]), Order(3, [(2, 0), (0, 1)])] * 10
        for turn in range(500):
            one, other, third = rng.sample(cases, 3)
            self.check_beside(one, other)
            self.check_stacked(one, other)
            if turn % 5 == 0:
                self.assertEqual(kinds_of(beside([one, other, third])), kinds_of(beside([beside([one, other]), third])))
                self.assertEqual(kinds_of(stacked([one, other, third])), kinds_of(stacked([stacked([one, other]), third])))

    def check_beside(self, one, other):
        """An order beside another one has a kind if both have it, and the two together make no paper."""
        both = beside([one, other])
        found, mine, yours = words(both), words(one), words(other)
        loose = not one.pairs() and not other.pairs()
        alone = one.size == 0 or other.size == 0
        short = len(longest_chain(one)) < 3 and len(longest_chain(other)) < 3
        crossed = bool(one.pairs()) and bool(other.pairs())
        told = {kind: mine[kind] and yours[kind] for kind in KINDS}
        told["levels"] = told["levels"] and (alone or loose)
        told["spans"] = told["spans"] and not crossed
        told["unit"] = told["unit"] and not crossed and (alone or short)
        self.assertEqual(found, told, (one.size, one.covers(), other.size, other.covers()))
        self.assertEqual(width(both), width(one) + width(other))
        self.assertEqual(len(longest_chain(both)), max(len(longest_chain(one)), len(longest_chain(other))))
        self.assertEqual(shape(both), sorted(shape(one) + shape(other), reverse=True))

    def check_stacked(self, one, other):
        both = stacked([one, other])
        found, mine, yours = words(both), words(one), words(other)
        told = {kind: mine[kind] and yours[kind] for kind in KINDS}
        told["forest"] = told["forest"] and (other.size == 0 or is_total(one))
        self.assertEqual(found, told, (one.size, one.covers(), other.size, other.covers()))
        self.assertEqual(width(both), max(width(one), width(other)))
        self.assertEqual(len(longest_chain(both)), len(longest_chain(one)) + len(longest_chain(other)))
        if found["unit"]:
            self.assertEqual(least_length(both)[0], max(least_length(one)[0], least_length(other)[0]))

    def test_parts_of_the_program_tell_the_same(self):
        for size, pairs in small_cases() + drawn_cases(209, (7, 11)):
            order = Order(size, pairs)
            self.assertEqual(lots(order), sorted({closed_lot(order, list(lot)) for lot in lots(order)}, key=lambda lot: (len(lot), lot)))
            self.assertTrue(same(order_of_lots(size, lots(order)), order))
            self.assertTrue(same(read_order(write_order(order)), order))
            self.assertEqual([len(level) for level in levels(order)], [heights(order).count(k) for k in range(len(levels(order)))])
            self.assertEqual(len(longest_chain(order)), len(levels(order)))
            self.assertEqual(antichain_cover(order, len(levels(order)))[0], size)
            self.assertEqual(chain_cover(order, width(order))[0], size)
            word, tree = draw(order, "joins")
            if word:
                self.assertEqual((tree_rows(tree), tree_lots(tree)), (row_count(order), lot_count(order)))
                self.assertEqual((tree_width(tree), tree_height(tree)), (width(order), len(longest_chain(order))))
                self.assertEqual(sorted(elements_in(tree)), list(range(size)))
            if size < 8:
                self.assertIs(least_rows(order)[0] <= 2, draw_rows(order)[0])
                self.assertEqual(least_rows(order)[0] == 1, row_count(order) == 1)
                self.assertTrue(all(is_row(order, row) for row in least_rows(order)[1]))


def shown(thing):
    """A thing in which orders stand as what they tell, so that one can see whether anything has changed."""
    if isinstance(thing, Order):
        return ("order", thing.size, thing.pairs(), thing.covers(), thing.lowest(), thing.highest(), list(thing),
                [(thing.above(e), thing.under(e), thing.upper_covers(e)) for e in range(thing.size)])
    if isinstance(thing, (list, tuple)):
        return (type(thing).__name__, [shown(item) for item in thing])
    return copy.deepcopy(thing)


def lists_in(thing):
    """All lists that a thing is or has."""
    if not isinstance(thing, (list, tuple)):
        return []
    return [thing] * isinstance(thing, list) + [one for item in thing for one in lists_in(item)]


class NothingChangesTest(unittest.TestCase):

    def check(self, ask, *given):
        """The arguments stay, and the answer is of new lists: after they are changed, the next answer is the same."""
        before = shown(given)
        answer = ask(*given)
        self.assertEqual(shown(given), before, ask)
        kept = shown(answer)
        mine = {id(one) for one in lists_in(given)}
        found = lists_in(answer)
        self.assertEqual(len({id(one) for one in found}), len(found), ask)
        self.assertFalse(mine & {id(one) for one in found}, ask)
        for one in found:
            one.append(99)
            one.reverse()
        self.assertEqual(shown(given), before, ask)
        self.assertEqual(shown(ask(*given)), kept, ask)
        return answer

    def test_answers_about_an_order(self):
        asked = [
            heights, levels, longest_chain, draw_levels, draw_forest, draw_joins, draw_arcs, draw_spans, draw_unit, draw_rows,
            end_count, kinds_of, dual, write_order, width, fewest_chains, lowest_widest, highest_widest, shape, Order.pairs, Order.covers,
            Order.lowest, Order.highest, list]
        few = [lots, lot_count, row_count, place_counts, lambda order: row_at(order, 0), lambda order: list(rows(order, 2))]
        for size, pairs in small_cases()[::2] + drawn_cases(211, (12, 40))[::2]:
            order = Order(size, pairs)
            for ask in asked:
                self.check(ask, order)
            for kind in KINDS:
                self.check(draw, order, kind)
            for count in (0, 1, 2, size, 10 ** 12):
                self.check(chain_cover, order, count)
                self.check(antichain_cover, order, count)
            for e in range(min(3, size)):
                for ask in (Order.above, Order.under, Order.upper_covers):
                    self.check(ask, order, e)
            if size < 7:
                for ask in few:
                    self.check(ask, order)
                self.check(least_rows, order)
                for count in (1, 2, 3):
                    self.check(draw_many, order, count)
            if draw_unit(order)[0]:
                self.check(least_length, order)

    def test_functions_that_get_more(self):
        rng = random.Random(212)
        for size, pairs in small_cases()[::2] + drawn_cases(213, (12, 40))[::3]:
            self.check(Order, size, list(pairs))
            order = Order(size, pairs)
            names = plain.shuffled_names(rng, size)
            some = names[:rng.randrange(size + 1)]
            for ask in (is_lot, closed_lot, is_chain, is_antichain, part):
                self.check(ask, order, some)
            self.check(renamed, order, names)
            self.check(same, order, Order(size, []))
            self.check(read_order, write_order(order))
            self.check(shows_width, order, fewest_chains(order), lowest_widest(order))
            _, chains, antichains = chain_cover(order, 2)
            self.check(shows_chain_cover, order, 2, chains, antichains)
            self.check(shows_antichain_cover, order, 2, antichains, chains)
            for kind in KINDS:
                word, paper = draw(order, kind)
                self.check(takes, order, kind, word, paper)
                self.check(takes, order, kind, not word, paper)
                self.check(takes, order, kind, True, [paper, [paper], []])
                if word:
                    self.check(order_of, kind, paper)
            row = order_row(order)
            self.check(is_row, order, row)
            self.check(swaps, row, order_row(order))
            self.check(takes_many, order, 2, True, (row, row))
            self.check(takes_many, order, 2, False, [row, [row]])
            if size < 7:
                self.check(beside, [order, order, Order(1, [])])
                self.check(stacked, [order, order, Order(1, [])])
                self.check(product, order, order)
                self.check(order_of_lots, size, lots(order))
                self.check(row_number, order, row)
            word, tree = draw(order, "joins")
            if word:
                for ask in (elements_in, tree_rows, tree_lots, tree_width, tree_height):
                    self.check(ask, tree)
                self.check(match_trees, tree, draw(renamed(order, names), "joins")[1])
            if size:
                self.check(shows_length, order, 1, (0, 0))

    def test_an_order_takes_nothing_from_its_list(self):
        pairs = [(0, 1), (1, 2)]
        order = Order(3, pairs)
        before = shown(order)
        pairs.append((2, 0))
        pairs[0] = (7, 7)
        self.assertEqual(shown(order), before)

    def check_error(self, error, ask, *given):
        before = shown(given)
        for turn in range(2):
            with self.assertRaises(error) as caught:
                ask(*given)
            self.assertIs(type(caught.exception), error)
            self.assertIsInstance(caught.exception, OrderError)
        self.assertEqual(shown(given), before)
        return caught.exception

    def test_calls_that_raise_an_error(self):
        order, wide = Order(3, [(0, 1)]), Order(21, [(4, 3)])
        self.check_error(BadSize, Order, 41, [(0, 1)])
        self.check_error(BadPair, Order, 3, [(0, 1), (0, 3)])
        ring = self.check_error(Ring, Order, 3, [(0, 1), (1, 2), (2, 0)])
        self.assertEqual(sorted(ring.ring), [0, 1, 2])
        self.check_error(BadSize, beside, [wide, wide])
        self.check_error(BadSize, stacked, [wide, wide])
        self.check_error(BadSize, product, wide, wide)
        self.check_error(NoRow, row_at, order, 3)
        self.check_error(NoRow, row_at, order, -1)
        self.check_error(BadLots, order_of_lots, 2, [(), (1, 0), (1, 0)])
        self.check_error(BadText, read_order, ["order 2", "0 < 1", "1 < 0"])
        for kind in KINDS:
            self.check_error(BadDrawing, order_of, kind, [0, [1]])
            self.check_error(BadDrawing, order_of, kind, None)
        self.check_error(BadDrawing, order_of, "forest", (1, 0))
        self.check_error(BadDrawing, order_of, "arcs", ((0, 1), (1, 0)))

    def test_a_book_gives_no_lists_of_its_own(self):
        book = Book()
        for e in range(6):
            book.grow()
        for pair in ((0, 1), (1, 2), (3, 4)):
            book.put(*pair)
        asked = [book.put_pairs, book.order, book.kinds, book.width, book.shape] + [lambda kind=kind: book.answer(kind) for kind in KINDS]
        kept = [shown(ask()) for ask in asked]
        for ask in asked:
            self.check(ask)
        self.assertEqual([shown(ask()) for ask in asked], kept)
        for deed, given in ((book.put, (2, 0)), (book.put, (0, 6)), (book.put, (5, 5)), (book.take, (1, 0)), (book.take, (9, 9)), (book.drop, (6,)), (book.drop, (-1,))):
            with self.assertRaises(OrderError):
                deed(*given)
            self.assertEqual([shown(ask()) for ask in asked], kept)


def order_row(order):
    """Some row, of an order of any size."""
    return tuple(sorted(range(order.size), key=lambda e: (len(order.under(e)), e)))


if __name__ == "__main__":
    unittest.main()
