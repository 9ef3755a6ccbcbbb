"""Point 15 of the kind unit, points 11 to 13 in large orders of spans of one length, and drawnorders/unit.py."""

import itertools
import random
import unittest

from drawnorders.order import Order
from drawnorders.unit import draw_unit, least_length, shows_length

import plain


def unit_pairs(length, starts):
    """The pairs of the order that starts with a length show."""
    every = range(len(starts))
    return [(a, b) for a in every for b in every if starts[a] + length < starts[b]]


def unit_cases(seed, sizes, many):
    """Orders that spans of one length make, each with such a length."""
    rng = random.Random(seed)
    cases = []
    for size in sizes:
        for _ in range(many):
            length = rng.choice((0, 1, 2, 5, 19, 100))
            most = max(1, rng.choice((length, 2 * length, 3 * length, 5 * length, 10 * length, size)))
            starts = [rng.randrange(most) for _ in range(size)]
            cases.append((size, unit_pairs(length, starts), length))
    return cases


def stairs(length, size, names):
    """Starts 0, 1, 2, .. with the names of the elements."""
    starts = [0] * size
    for at, name in enumerate(names):
        starts[name] = at
    return unit_pairs(length, starts)


def steps_told(facts, ring):
    """The numbers of steps up and of other steps of a ring, or None."""
    counts = [0, 0]
    for at in range(len(ring)):
        one, other = ring[at], ring[(at + 1) % len(ring)]
        if facts.below(one, other):
            counts[0] += 1
        elif one == other or facts.apart(one, other):
            counts[1] += 1
        else:
            return None
    return counts


def shows_told(facts, length, ring):
    counts = steps_told(facts, ring)
    return counts is not None and counts[0] * length > counts[1] * (length - 1)


def starts_by_search(facts, length):
    """All starts of drawings with this length that are not beyond what the least ones can be."""
    most = max(0, facts.size - 1) * (length + 1)
    found = [()]
    for e in range(facts.size):
        longer = []
        for starts in found:
            for start in range(most + 1):
                if all((starts[x] + length < start) == facts.below(x, e)
                       and (start + length < starts[x]) == facts.below(e, x) for x in range(e)):
                    longer.append(starts + (start,))
        found = longer
    return found


class LeastTest(unittest.TestCase):

    def check(self, size, pairs, length=None):
        """All that least_length and draw_unit say of an order that has a drawing. Returns the length."""
        order, facts = Order(size, pairs), plain.Facts(size, pairs)
        answer = least_length(order)
        self.assertIs(type(answer), tuple)
        least, starts, ring = answer
        self.assertEqual(draw_unit(order), (True, (least, starts)))
        self.assertEqual(plain.shown_unit(size, (least, starts)), facts.stands)
        self.assertEqual(starts, plain.least_starts(facts, least))
        if length is not None:
            self.assertEqual(least, length)
        self.assertIs(type(ring), tuple)
        if least == 0:
            self.assertEqual(ring, ())
        else:
            self.assertIsNone(plain.least_starts(facts, least - 1))
            self.assertTrue(ring)
            self.assertTrue(all(type(e) is int and 0 <= e < size for e in ring))
            self.assertTrue(shows_told(facts, least, ring))
            self.assertIs(shows_length(order, least, ring), True)
            self.assertIs(shows_length(order, least + 1, ring), False)
        self.assertEqual(order.pairs(), sorted(facts.stands))
        return least

    def test_the_length_0(self):
        self.assertEqual(least_length(Order(0, [])), (0, (), ()))
        self.assertEqual(least_length(Order(1, [])), (0, (0,), ()))
        self.assertEqual(least_length(Order(3, [(2, 0), (2, 1)])), (0, (1, 1, 0), ()))
        self.assertEqual(least_length(Order(40, [])), (0, (0,) * 40, ()))
        self.assertEqual(least_length(Order(40, [(e + 1, e) for e in range(39)])), (0, tuple(range(39, -1, -1)), ()))

    def test_exactly_levels_have_the_length_0(self):
        for size, pairs in plain.small_cases() + plain.five_cases()[::3]:
            facts = plain.Facts(size, pairs)
            order = Order(size, pairs)
            word, drawing = draw_unit(order)
            if not plain.some_paper("levels", facts):
                self.assertEqual(drawing, (0, tuple(plain.heights_told(facts))))
            elif word:
                self.assertGreater(drawing[0], 0)

    def test_told_by_hand(self):
        self.assertEqual(draw_unit(Order(3, [(0, 1)])), (True, (1, (0, 2, 1))))
        self.assertEqual(draw_unit(Order(4, [(0, 2), (1, 2), (1, 3)])), (True, (1, (1, 0, 3, 2))))
        self.assertEqual(draw_unit(Order(5, [(0, 3), (0, 4), (1, 4)])), (True, (2, (0, 1, 2, 3, 4))))

    def test_the_search_and_the_longest_ways_agree(self):
        for size, pairs in plain.small_cases()[::3]:
            facts = plain.Facts(size, pairs)
            for length in (0, 1, 2) if size < 4 else (0, 1):
                all_starts = starts_by_search(facts, length)
                told = plain.least_starts(facts, length)
                if told is None:
                    self.assertEqual(all_starts, [])
                else:
                    self.assertEqual(told, tuple(map(min, zip(*all_starts))))

    def test_small_orders(self):
        lengths = []
        for size, pairs in plain.small_cases() + plain.five_cases() + plain.six_cases()[::2]:
            if draw_unit(Order(size, pairs))[0]:
                lengths.append(self.check(size, pairs))
        self.assertEqual(sorted(set(lengths)), [0, 1, 2])

    def test_orders_that_spans_of_one_length_make(self):
        for size, pairs, length in unit_cases(61, range(1, 20), 8) + unit_cases(62, (25, 33, 39, 40), 6):
            self.assertLessEqual(self.check(size, pairs), length)

    def test_lengths_that_must_be_great(self):
        rng = random.Random(63)
        for length in (1, 2, 3, 7, 19):
            size = 2 * length + 1
            for turn in range(2):
                self.check(size, stairs(length, size, plain.shuffled_names(rng, size)), length)
        names = plain.shuffled_names(rng, 40)
        self.check(40, stairs(19, 40, names), 19)
        self.check(40, stairs(12, 40, names), 12)

    def test_no_less_length_by_search(self):
        # One start more than twice the length forces the length 2: no starts have the length 1.
        facts = plain.Facts(5, unit_pairs(2, (0, 1, 2, 3, 4)))
        self.assertEqual(starts_by_search(facts, 1), [])
        self.check(5, facts.given, 2)


class DrawUnitTest(unittest.TestCase):

    def check(self, size, pairs, word=None):
        order, facts = Order(size, pairs), plain.Facts(size, pairs)
        found, paper = draw_unit(order)
        if word is not None:
            self.assertIs(found, word)
        if found:
            self.assertEqual(plain.shown_unit(size, paper), facts.stands)
            self.assertEqual(paper, plain.unit_told(facts))
        else:
            self.assertTrue(plain.is_paper("unit", facts, paper), (size, pairs, paper))
        return found

    def test_papers_of_both_forms(self):
        self.assertIn(draw_unit(Order(4, [(0, 1), (2, 3)])), ((False, (0, 1, 2, 3)), (False, (2, 3, 0, 1))))
        self.assertEqual(draw_unit(Order(4, [(3, 1), (1, 0)])), (False, (3, 1, 0, 2)))
        self.check(40, [(e, e + 1) for e in range(38)], False)
        self.check(40, [(0, 1), (1, 2)], False)

    def test_seven_elements(self):
        rng = random.Random(64)
        for turn in range(800):
            pairs = plain.random_pairs(rng, 7, rng.choice((0.1, 0.3, 0.5, 0.7)))
            word = self.check(7, pairs)
            self.assertIs(word, not plain.some_paper("unit", plain.Facts(7, pairs)))

    def test_a_pair_less_or_more(self):
        rng = random.Random(65)
        words = []
        for size, pairs, length in unit_cases(66, range(5, 20), 5):
            for changed in plain.with_a_pair_less_or_more(rng, size, pairs):
                words.append(self.check(size, changed))
        self.assertGreater(words.count(True), 30)
        self.assertGreater(words.count(False), 30)

    def test_forty_elements_against_all_tuples(self):
        cases = [(size, pairs) for size, pairs, length in unit_cases(67, (40,), 2)]
        for size, pairs in cases + plain.random_cases(68, (40,), 2):
            facts = plain.Facts(size, pairs)
            self.assertIs(self.check(size, pairs), not plain.some_paper("unit", facts))


class ShowsLengthTest(unittest.TestCase):

    def check(self, size, pairs, length, ring):
        facts = plain.Facts(size, pairs)
        found = shows_length(Order(size, pairs), length, ring)
        self.assertIs(type(found), bool)
        self.assertIs(found, shows_told(facts, length, ring), (size, pairs, length, ring))
        return found

    def test_no_element_and_one(self):
        for size, pairs in ((1, []), (3, [(0, 1)])):
            for length in (1, 2, 3, 10 ** 30):
                self.assertIs(shows_length(Order(size, pairs), length, ()), False)
                for e in range(size):
                    self.assertIs(shows_length(Order(size, pairs), length, (e,)), False)
        self.assertIs(shows_length(Order(0, []), 1, ()), False)

    def test_told_by_hand(self):
        order = Order(3, [(0, 1)])
        for ring in ((0, 1, 2), (1, 2, 0), (2, 0, 1), (0, 1, 2, 2), (0, 1, 2, 0, 1, 2)):
            self.assertIs(shows_length(order, 1, ring), True)
            self.assertIs(shows_length(order, 2, ring), False)
        # From 1 to 0 is no step.
        for ring in ((0, 1), (1, 0), (1, 0, 2), (0, 2, 1)):
            self.assertIs(shows_length(order, 1, ring), False)

    def test_rings_that_have_no_more_other_steps_than_steps_up(self):
        # Two below two, apart: such a ring shows each length, and there is no drawing.
        order = Order(4, [(0, 1), (2, 3)])
        for length in (1, 2, 10 ** 40):
            self.assertIs(shows_length(order, length, (0, 1, 2, 3)), True)
        self.assertIs(shows_length(order, 1, (0, 1, 2, 2, 3)), True)
        self.assertIs(shows_length(order, 2, (0, 1, 2, 2, 3)), True)
        self.assertIs(shows_length(order, 3, (0, 1, 2, 2, 3)), False)

    def test_all_short_rings_of_small_orders(self):
        shown = 0
        for size, pairs in plain.small_cases()[::4]:
            for many in range(5 if size else 1):
                for ring in itertools.product(range(size), repeat=many):
                    for length in (1, 2, 3):
                        shown += self.check(size, pairs, length, ring)
        self.assertGreater(shown, 100)

    def test_drawn_rings(self):
        rng = random.Random(69)
        shown = 0
        for size, pairs, length in unit_cases(70, (5, 10, 40), 20):
            least, starts, ring = least_length(Order(size, pairs))
            for turn in range(20):
                drawn = list(ring) * rng.randrange(1, 3)
                for change in range(rng.randrange(3)):
                    drawn.insert(rng.randrange(len(drawn) + 1), rng.randrange(size))
                for asked in (1, 2, max(1, least - 1), max(1, least), least + 1):
                    shown += self.check(size, pairs, asked, tuple(drawn))
        self.assertGreater(shown, 100)

    def test_a_ring_that_shows_a_length_is_right(self):
        for size, pairs in plain.small_cases():
            facts = plain.Facts(size, pairs)
            for ring in itertools.permutations(range(size)):
                for length in (1, 2):
                    if shows_length(Order(size, pairs), length, ring):
                        self.assertIsNone(plain.least_starts(facts, length - 1))


if __name__ == "__main__":
    unittest.main()
