"""The section drawnorders/texts.py of the interface."""

import random
import unittest

from drawnorders import errors
from drawnorders.errors import BadText, OrderError
from drawnorders.order import Order
from drawnorders.texts import read_order, write_order

import plain

WORDS = {str(number): number for number in range(100)}


def first_bad(lines):
    """The index of the first line that has no place, by the words of the section, or None."""
    if not lines:
        return 0
    words = lines[0].split(" ")
    if len(words) != 2 or words[0] != "order" or words[1] not in WORDS or WORDS[words[1]] > 40:
        return 0
    size = WORDS[words[1]]
    pairs = []
    for at, line in enumerate(lines[1:], start=1):
        words = line.split(" ")
        if len(words) != 3 or words[1] != "<" or words[0] not in WORDS or words[2] not in WORDS:
            return at
        pair = (WORDS[words[0]], WORDS[words[2]])
        pairs.append(pair)
        if max(pair) >= size or any(a == b for a, b in plain.closed(size, pairs)):
            return at
    return None


class WriteTest(unittest.TestCase):

    def test_small_orders(self):
        for size, pairs in plain.small_cases() + plain.five_cases()[::9] + plain.six_cases()[::20]:
            self.check(size, pairs)

    def test_many_elements(self):
        for size, pairs in plain.random_cases(191, (7, 11, 25, 40), 12):
            self.check(size, pairs)

    def check(self, size, pairs):
        order, facts = Order(size, pairs), plain.Facts(size, pairs)
        lines = write_order(order)
        covers = [(a, b) for a in range(size) for b in range(size) if facts.covers(a, b)]
        self.assertEqual(lines, [f"order {size}"] + [f"{a} < {b}" for a, b in covers])
        self.assertIs(type(lines), list)
        again = read_order(lines)
        self.assertIs(type(again), Order)
        self.assertEqual((again.size, again.pairs()), (size, sorted(facts.stands)))
        lines.append("7 < 7")
        self.assertEqual(len(write_order(order)), len(lines) - 1)

    def test_told_by_hand(self):
        self.assertEqual(write_order(Order(0, [])), ["order 0"])
        self.assertEqual(write_order(Order(40, [])), ["order 40"])
        self.assertEqual(write_order(Order(12, [(11, 10), (10, 0), (11, 0), (2, 3)])), ["order 12", "2 < 3", "10 < 0", "11 < 10"])


class ReadTest(unittest.TestCase):

    def check_bad(self, lines, at):
        before = list(lines)
        with self.assertRaises(BadText) as caught:
            read_order(lines)
        self.assertEqual(caught.exception.line, at, lines)
        self.assertIsInstance(caught.exception, OrderError)
        self.assertIsInstance(caught.exception, ValueError)
        for name in ("BadSize", "BadPair", "Ring", "BadDrawing", "BadLots", "NoRow", "Missing"):
            self.assertNotIsInstance(caught.exception, getattr(errors, name))
        self.assertEqual(lines, before)

    def check(self, lines):
        """The order, or the index of the first bad line. Returns True if there is an order."""
        at = first_bad(lines)
        if at is not None:
            self.check_bad(lines, at)
            return False
        before = list(lines)
        order = read_order(lines)
        self.assertEqual(lines, before)
        pairs = [tuple(map(int, line.split(" < "))) for line in lines[1:]]
        self.assertEqual((order.size, order.pairs()), (int(lines[0][6:]), sorted(plain.closed(order.size, pairs))))
        return True

    def test_any_pairs_in_any_order(self):
        rng = random.Random(192)
        for size, pairs in plain.random_cases(193, (0, 1, 2, 4, 9, 12, 40), 12):
            stands = sorted(plain.closed(size, pairs))
            some = rng.sample(stands, rng.randrange(len(stands) + 1)) + pairs
            rng.shuffle(some)
            lines = [f"order {size}"] + [f"{a} < {b}" for a, b in some + some[:3]]
            self.assertEqual(read_order(lines).pairs(), stands)
            self.assertTrue(self.check(lines))

    def test_all_numbers(self):
        for number in range(100):
            self.assertEqual(self.check([f"order {number}"]), number <= 40)
            for size in (0, 1, 2, 9, 10, 11, 39, 40):
                self.assertEqual(self.check([f"order {size}", f"{number} < 0"]), 0 < number < size)
                self.assertEqual(self.check([f"order {size}", f"0 < {number}"]), 0 < number < size)

    def test_first_lines(self):
        self.check_bad([], 0)
        bad = ("", " ", "order", "order ", "order  3", " order 3", "order 3 ", "order 3 4", "Order 3", "ORDER 3", "order3", "orders 3",
               "order 03", "order 00", "order 003", "order 41", "order 50", "order 99", "order 100", "order 400", "order " + "9" * 5000,
               "order -1", "order +3", "order -0", "order three", "order 3.0", "order 0x3", "order 1e1", "order 1_0", "order 3\n", "order\t3", "order 3\r",
               "order \u0663", "order \u00b2", "order \uff13", "order\u00a03", "order 3\u200b", "\ufefforder 3", "order ", "order None", "0 < 1", "3",
               "3 order", "order <", "order 3 <", "# order 3", "order \x00", "\ud800", "order 3\x00", "order 1 0", "size 3", "order: 3", "order=3")
        for line in bad:
            self.check_bad([line], 0)
            self.check_bad([line, "0 < 1"], 0)
            self.check_bad([line, "order 3", "0 < 1"], 0)
        for line in ("order 0", "order 1", "order 9", "order 10", "order 40"):
            self.assertTrue(self.check([line]))

    def test_lines_of_pairs(self):
        bad = ("", " ", "0", "0 <", "< 1", "0 < ", " < 1", "0<1", "0 <1", "0< 1", "0  < 1", "0 <  1", " 0 < 1", "0 < 1 ", "0 > 1", "0 = 1", "0 <= 1",
               "1 > 0", "0 < 1 < 2", "0 1", "0 1 2", "0 1 <", "< 0 1", "00 < 1", "0 < 01", "000 < 1", "-1 < 1", "0 < -1", "+0 < 1", "0 < +1", "-0 < 1",
               "a < b", "0 < b", "a < 1", "O < 1", "0 < l", "0 < 1\n", "0 < 1\r", "0\t<\t1", "0 \n< 1", "0 < \u0661", "\u0660 < 1", "0 < \u00b9", "0 \uff1c 1",
               "0 < 3", "3 < 0", "3 < 3", "0 < 10", "0 < 40", "0 < 99", "0 < 100", "100 < 1", "0 < " + "1" * 5000, "9 < 0", "order 3", "order 0", "order", "0 < 0", "1 < 1", "2 < 2",
               "0 < 1.0", "0.0 < 1", "0 < 0x1", "0 < 1_0", "0 << 1", "(0, 1)", "0, 1", "None", "\x00", "0 < 1\x00", "\ud800 < 1", "0 \u2264 1", "<", "< < <", "0 < <")
        for line in bad:
            self.check_bad(["order 3", line], 1)
            self.check_bad(["order 3", "0 < 1", line], 2)
            self.check_bad(["order 3", "0 < 1", "0 < 1", "0 < 2", line, "1 < 2", line, ""], 4)

    def test_rings(self):
        self.check_bad(["order 2", "0 < 1", "1 < 0"], 2)
        self.check_bad(["order 2", "0 < 1", "0 < 1", "1 < 0", "x"], 3)
        self.check_bad(["order 2", "0 < 1", "x", "1 < 0"], 2)
        self.check_bad(["order 4", "2 < 3", "0 < 1", "3 < 0", "0 < 2"], 4)
        self.check_bad(["order 4", "2 < 3", "0 < 1", "3 < 0", "1 < 2"], 4)
        self.check_bad(["order 4", "2 < 3", "0 < 1", "1 < 2", "3 < 0"], 4)
        self.check_bad(["order 40"] + [f"{e} < {e + 1}" for e in range(39)] + ["39 < 0", "39 < 0"], 40)
        self.check_bad(["order 40"] + [f"{e} < {(e + 1) % 40}" for e in range(39, -1, -1)], 40)
        self.assertTrue(self.check(["order 40"] + [f"{e} < {e + 1}" for e in range(39)] + ["0 < 39", "0 < 1", "0 < 1"]))

    def test_drawn_lines(self):
        rng = random.Random(194)
        words = []
        for turn in range(1500):
            size = rng.choice((2, 3, 5, 12, 40))
            names = plain.shuffled_names(rng, size)
            lines = [f"order {size}"]
            for pair in range(rng.randrange(14)):
                a, b = sorted(rng.sample(range(size), 2))
                lines.append(f"{names[a]} < {names[b]}" if rng.random() < 0.97 else f"{names[b]} < {names[a]}")
            if rng.random() < 0.5:
                at = rng.randrange(len(lines))
                line = lines[at]
                spot = rng.randrange(len(line) + 1)
                lines[at] = line[:spot] + rng.choice(("", " ", "0", "1", "9", "<", "-", "\n", "e")) + line[spot + rng.randrange(2):]
            words.append(self.check(lines))
        self.assertGreater(words.count(True), 300)
        self.assertGreater(words.count(False), 300)

    def test_very_many_lines(self):
        pairs = [f"{a} < {b}" for a in range(40) for b in range(a + 1, 40)]
        lines = ["order 40"] + (pairs + pairs[::-1]) * 3
        self.assertEqual(len(read_order(lines).pairs()), 780)
        self.check_bad(lines + ["20 < 3"], len(lines))


if __name__ == "__main__":
    unittest.main()
