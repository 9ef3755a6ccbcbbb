"""The section drawnorders/errors.py of the interface."""

import unittest

from drawnorders import errors
from drawnorders.errors import (
    BadDrawing, BadLots, BadPair, BadSize, BadText, Missing, NoRow, OrderError, Ring)

MANY_DIGITS = 10 ** 6000


class ErrorsTest(unittest.TestCase):

    def test_the_base_class_is_a_value_error(self):
        self.assertEqual(OrderError.__bases__, (ValueError,))

    def test_all_others_are_direct_subclasses(self):
        for one in (BadDrawing, BadLots, BadPair, BadSize, BadText, Missing, NoRow, Ring):
            self.assertEqual(one.__bases__, (OrderError,))
            self.assertEqual(one.__module__, errors.__name__)

    def test_fields(self):
        self.assertEqual(BadSize(41).wanted, 41)
        self.assertEqual(BadPair(3).index, 3)
        self.assertEqual(Ring([2, 0]).ring, [2, 0])
        self.assertEqual(BadText(7).line, 7)

    def test_errors_without_fields_are_made_of_nothing(self):
        for one in (BadDrawing, BadLots, NoRow, Missing):
            self.assertEqual(vars(one()), {})

    def test_a_ring_is_copied(self):
        ring = [0, 1]
        error = Ring(ring)
        ring.append(2)
        self.assertEqual(error.ring, [0, 1])

    def test_numbers_of_many_digits_can_be_shown(self):
        for error in (BadSize(MANY_DIGITS), BadPair(MANY_DIGITS), BadText(MANY_DIGITS)):
            self.assertIsInstance(str(error), str)
            self.assertIsInstance(repr(error), str)


if __name__ == "__main__":
    unittest.main()
