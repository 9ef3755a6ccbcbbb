"""The section drawnorders/book.py of the interface."""

import inspect
import random
import unittest

from drawnorders import errors
from drawnorders.book import Book
from drawnorders.drawings import KINDS
from drawnorders.errors import BadPair, BadSize, Missing, Ring
from drawnorders.kinds import draw, kinds_of
from drawnorders.order import Order
from drawnorders.shape import shape
from drawnorders.width import width

import plain

METHODS = {
    "__init__": [], "grow": [], "put": ["low", "high"], "take": ["low", "high"], "drop": ["element"], "put_pairs": [], "order": [],
    "answer": ["kind"], "kinds": [], "width": [], "shape": []}
NAMES = ("BadSize", "BadPair", "Ring", "BadText", "BadDrawing", "BadLots", "NoRow", "Missing")
FAR = 10 ** 6000


class Model:
    """A book as the test keeps it: a size and a list of pairs. Each deed tells the name of its error, or None."""

    def __init__(self):
        self.size = 0
        self.pairs = []

    def grow(self):
        if self.size == 40:
            return "BadSize"
        self.size += 1

    def put(self, low, high):
        if not (0 <= low < self.size and 0 <= high < self.size):
            return "BadPair"
        if (low, high) not in self.pairs:
            if any(a == b for a, b in plain.closed(self.size, self.pairs + [(low, high)])):
                return "Ring"
            self.pairs.append((low, high))

    def take(self, low, high):
        if (low, high) not in self.pairs:
            return "Missing"
        self.pairs.remove((low, high))

    def drop(self, e):
        if not 0 <= e < self.size:
            return "Missing"
        self.size -= 1
        self.pairs = [(a - (a > e), b - (b > e)) for a, b in self.pairs if e not in (a, b)]


def deep(thing):
    """A thing with all lists as tuples, to compare what types may hide."""
    return (type(thing).__name__, tuple(map(deep, thing))) if isinstance(thing, (list, tuple)) else thing


class BookTest(unittest.TestCase):

    def check(self, book, model):
        self.assertEqual(book.size, model.size)
        found = book.put_pairs()
        self.assertIs(type(found), list)
        self.assertEqual(found, model.pairs)
        order = book.order()
        self.assertIs(type(order), Order)
        self.assertEqual((order.size, order.pairs()), (model.size, sorted(plain.closed(model.size, model.pairs))))

    def check_error(self, book, model, deed, error, given):
        """The error is of the class that is told, with its fields."""
        name = type(error).__name__
        self.assertEqual([other for other in NAMES if isinstance(error, getattr(errors, other))], [name])
        if name == "BadSize":
            self.assertEqual(error.wanted, 41)
        elif name == "BadPair":
            self.assertEqual(error.index, len(model.pairs))
        elif name == "Ring":
            ring, pairs = error.ring, model.pairs + [given]
            self.assertTrue(type(ring) is list and len(ring) > 0)
            self.assertTrue(all(pair in pairs for pair in zip(ring, ring[1:] + ring[:1])))
        else:
            self.assertEqual(vars(error), {})
        return name

    def do(self, book, model, deed, *given):
        """One deed in both. Returns the name of the error, or None."""
        before = (model.size, list(model.pairs))
        try:
            answer = getattr(book, deed)(*given)
        except errors.OrderError as error:
            name = self.check_error(book, model, deed, error, given)
        else:
            name = None
            self.assertEqual(answer, model.size if deed == "grow" else None)
            self.assertIs(type(answer), int if deed == "grow" else type(None))
        self.assertEqual(getattr(model, deed)(*given), name, (deed, given))
        if name is not None:
            self.assertEqual((model.size, model.pairs), before)
        return name

    def ask(self, rng, book, model):
        """Some of the answers, each one as the functions give it for an order that is made anew."""
        order = Order(model.size, model.pairs)
        for turn in range(rng.randrange(1, 6)):
            what = rng.randrange(5)
            if what == 0:
                kind = rng.choice(KINDS)
                self.assertEqual(deep(book.answer(kind)), deep(draw(order, kind)))
            elif what == 1:
                found = book.kinds()
                self.assertEqual(deep(found), deep(kinds_of(order)))
                found.append("arcs")
            elif what == 2:
                self.assertEqual(book.width(), width(order))
            elif what == 3:
                found = book.shape()
                self.assertEqual(deep(found), deep(shape(order)))
                found.clear()
            else:
                found = book.put_pairs()
                self.assertEqual(found, model.pairs)
                found.append((0, 0))

    def some_deed(self, rng, model, most):
        """A deed and its arguments, now and then with integers that are no elements."""
        def number():
            return rng.randrange(model.size) if model.size and rng.random() < 0.95 else rng.choice((-1, model.size, 41, FAR, -FAR))
        way = rng.random()
        if way < 0.15 and model.size < most or model.size == 0:
            return ("grow",)
        if way < 0.7:
            pair = (number(), number())
            return ("put",) + (min(pair), max(pair)) if rng.random() < 0.7 else ("put",) + pair
        if way < 0.78 and model.pairs:
            return ("put",) + rng.choice(model.pairs)
        if way < 0.93:
            return ("take",) + (rng.choice(model.pairs) if model.pairs and rng.random() < 0.8 else (number(), number()))
        return ("drop", number())

    def test_long_runs(self):
        rng = random.Random(181)
        names = []
        for most, many in ((3, 300), (6, 700), (12, 700), (25, 400)):
            book, model = Book(), Model()
            for step in range(many):
                names.append(self.do(book, model, *self.some_deed(rng, model, most)))
                self.check(book, model)
                if rng.random() < 0.3:
                    self.ask(rng, book, model)
        for name in ("BadPair", "Ring", "Missing"):
            self.assertGreater(names.count(name), 20, name)
        self.assertGreater(names.count(None), 500)

    def test_runs_at_forty_elements(self):
        rng = random.Random(182)
        book, model = Book(), Model()
        for e in range(40):
            self.assertIsNone(self.do(book, model, "grow"))
        for step in range(250):
            if step % 10 == 0:
                told = None if model.size < 40 else "BadSize"
                self.assertEqual(self.do(book, model, "grow"), told)
            self.do(book, model, *self.some_deed(rng, model, 40))
            if step % 10 == 0:
                self.check(book, model)
                self.ask(rng, book, model)
        self.check(book, model)

    def test_two_books_side_by_side(self):
        rng = random.Random(183)
        both = [(Book(), Model()), (Book(), Model())]
        for step in range(400):
            book, model = rng.choice(both)
            self.do(book, model, *self.some_deed(rng, model, 7))
            for one in both:
                self.check(*one)
            if step % 7 == 0:
                self.ask(rng, *rng.choice(both))

    def test_told_by_hand(self):
        book = Book()
        self.assertEqual((book.size, book.put_pairs(), book.kinds(), book.width(), book.shape()), (0, [], list(KINDS), 0, []))
        self.assertEqual(book.answer("joins"), (True, ("beside", ())))
        self.assertEqual([book.grow() for _ in range(4)], [0, 1, 2, 3])
        self.assertIsNone(book.put(2, 3))
        self.assertIsNone(book.put(0, 2))
        self.assertIsNone(book.put(2, 3))
        self.assertIsNone(book.put(0, 3))
        self.assertEqual(book.put_pairs(), [(2, 3), (0, 2), (0, 3)])
        self.assertEqual((book.width(), book.shape()), (2, [3, 1]))
        self.assertIsNone(book.drop(1))
        self.assertEqual((book.size, book.put_pairs()), (3, [(1, 2), (0, 1), (0, 2)]))
        self.assertIsNone(book.take(0, 1))
        self.assertEqual((book.put_pairs(), book.order().pairs()), ([(1, 2), (0, 2)], [(0, 2), (1, 2)]))
        self.assertIsNone(book.drop(2))
        self.assertEqual((book.size, book.put_pairs()), (2, []))
        self.assertEqual(book.grow(), 2)
        self.assertEqual(book.order().pairs(), [])

    def test_pairs_that_other_pairs_tell(self):
        """What is taken stays below by others, and stands no more."""
        book = Book()
        for e in range(3):
            book.grow()
        for pair in ((0, 1), (1, 2), (0, 2)):
            book.put(*pair)
        book.take(0, 2)
        self.assertEqual((book.put_pairs(), book.order().pairs()), ([(0, 1), (1, 2)], [(0, 1), (0, 2), (1, 2)]))
        with self.assertRaises(Missing):
            book.take(0, 2)
        with self.assertRaises(Ring):
            book.put(2, 0)
        book.take(1, 2)
        self.assertIsNone(book.put(2, 0))
        self.assertEqual(book.order().pairs(), [(0, 1), (2, 0), (2, 1)])

    def test_errors(self):
        book = Book()
        with self.assertRaises(BadPair) as caught:
            book.put(0, 0)
        self.assertEqual(caught.exception.index, 0)
        for e in range(3):
            book.grow()
        book.put(0, 1)
        book.put(1, 2)
        for pair in ((3, 0), (0, 3), (3, 3), (-1, 0), (0, -1), (-1, -1), (FAR, 0), (1, -FAR), (FAR, FAR), (41, 41), (2, 3)):
            with self.assertRaises(BadPair) as caught:
                book.put(*pair)
            self.assertEqual(caught.exception.index, 2)
            with self.assertRaises(Missing):
                book.take(*pair)
        for pair, rings in (((0, 0), [[0]]), ((2, 2), [[2]]), ((1, 0), [[0, 1], [1, 0]]), ((2, 0), [[0, 1, 2], [1, 2, 0], [2, 0, 1]])):
            with self.assertRaises(Ring) as caught:
                book.put(*pair)
            self.assertIn(caught.exception.ring, rings)
            with self.assertRaises(Missing):
                book.take(*pair)
        for e in (3, 4, -1, 40, FAR, -FAR):
            with self.assertRaises(Missing):
                book.drop(e)
        self.assertEqual((book.size, book.put_pairs()), (3, [(0, 1), (1, 2)]))

    def test_no_more_than_forty(self):
        book = Book()
        self.assertEqual([book.grow() for _ in range(40)], list(range(40)))
        for _ in range(2):
            with self.assertRaises(BadSize) as caught:
                book.grow()
            self.assertEqual(caught.exception.wanted, 41)
            self.assertEqual(book.size, 40)
        book.drop(0)
        self.assertEqual((book.size, book.grow(), book.size), (39, 39, 40))
        with self.assertRaises(BadSize):
            book.grow()

    def test_an_order_that_was_returned_stays(self):
        book = Book()
        orders = []
        for e in range(5):
            book.grow()
            for low in range(e):
                book.put(low, e)
                orders.append((book.order(), book.size, book.order().pairs()))
        book.drop(1)
        book.take(0, 1)
        for order, size, pairs in orders:
            self.assertEqual((order.size, order.pairs()), (size, pairs))

    def test_the_class(self):
        self.assertEqual(Book.__module__, "drawnorders.book")
        for name, arguments in METHODS.items():
            self.assertEqual(list(inspect.signature(vars(Book)[name]).parameters), ["self"] + arguments)
        self.assertIsInstance(vars(Book)["size"], property)


if __name__ == "__main__":
    unittest.main()
