"""[28]: ranges."""

import unittest
from itertools import combinations_with_replacement, product

from anypasses.numbers import OPS, PREDS, WIDTHS, bin_told, cmp_told
from anypasses.ranges import bin_range, cmp_range, narrowed
from making import sources


def told_range(op, w, one, other):
    """The words of the document, one after another."""
    (a, b), (c, d), top = one, other, 2 ** w
    if a == b and c == d and bin_told(op, w, a, c) is not None:
        return (bin_told(op, w, a, c),) * 2
    if op == "add" and (a + c >= top) == (b + d >= top):
        return ((a + c) % top, (b + d) % top)
    if op == "sub" and (a - d < 0) == (b - c < 0):
        return ((a - d) % top, (b - c) % top)
    if op == "mul" and b * d < top:
        return (a * c, b * d)
    if op == "udiv":
        return (a // max(d, 1), b // max(c, 1))
    if op == "urem":
        return (a, b) if b < c else (0, min(b, max(d, 1) - 1))
    if op == "and":
        return (0, min(b, d))
    return (0, b) if op == "lshr" else (0, top - 1)


def numbers_in(one):
    return range(one[0], one[1] + 1)


def drawn_range(rng, width, most=6):
    top = 2 ** width - 1
    low = rng.choice((0, 1, top, top // 2, top // 2 + 1, rng.randint(0, top), rng.randint(0, min(top, 9)), max(0, top - 4)))
    return (low, min(top, low + rng.randint(0, most)))


def wide_range(rng, width):
    low, high = sorted(rng.choice((0, 1, 2 ** width - 1, 2 ** (width - 1), rng.randrange(2 ** width))) for _ in range(2))
    return (low, high)


def inner_range(rng, one):
    low, high = sorted(rng.choice((one[0], one[1], rng.randint(*one))) for _ in range(2))
    return (low, high)


def small_ranges(width):
    return list(combinations_with_replacement(range(2 ** width), 2))


class BinRanges(unittest.TestCase):
    def test_by_hand(self):
        for op, width, one, other, told in (
                ("add", 8, (1, 3), (4, 9), (5, 12)), ("add", 8, (250, 255), (6, 9), (0, 8)), ("add", 8, (250, 255), (5, 9), (0, 255)),
                ("sub", 8, (9, 12), (2, 4), (5, 10)), ("sub", 8, (1, 2), (3, 9), (248, 255)), ("sub", 8, (1, 3), (3, 9), (0, 255)),
                ("sub", 8, (3, 4), (2, 3), (0, 2)), ("mul", 8, (2, 5), (3, 51), (6, 255)), ("mul", 8, (2, 4), (3, 64), (0, 255)),
                ("udiv", 8, (10, 20), (2, 5), (2, 10)), ("udiv", 8, (10, 20), (0, 0), (10, 20)), ("udiv", 8, (10, 20), (0, 5), (2, 20)),
                ("udiv", 8, (7, 7), (0, 0), (7, 7)), ("urem", 8, (3, 7), (8, 9), (3, 7)), ("urem", 8, (3, 7), (7, 9), (0, 7)),
                ("urem", 8, (3, 99), (2, 9), (0, 8)), ("urem", 8, (3, 99), (0, 0), (0, 0)), ("urem", 8, (3, 3), (0, 0), (0, 0)),
                ("and", 8, (9, 12), (1, 200), (0, 12)), ("and", 8, (12, 12), (10, 10), (8, 8)), ("lshr", 8, (9, 12), (4, 7), (0, 12)),
                ("lshr", 8, (9, 9), (1, 1), (4, 4)), ("or", 8, (1, 1), (2, 2), (3, 3)), ("or", 8, (1, 2), (2, 2), (0, 255)),
                ("xor", 8, (1, 2), (0, 0), (0, 255)), ("shl", 8, (1, 2), (1, 1), (0, 255)), ("ashr", 8, (1, 2), (1, 1), (0, 255)),
                ("sdiv", 8, (1, 2), (1, 1), (0, 255)), ("sdiv", 8, (9, 9), (254, 254), (252, 252)), ("sdiv", 8, (9, 9), (0, 0), (0, 255)),
                ("srem", 8, (9, 9), (0, 0), (0, 255)), ("srem", 8, (249, 249), (2, 2), (255, 255)), ("mul", 1, (0, 1), (1, 1), (0, 1)),
                ("add", 64, (1, 2), (2 ** 64 - 3, 2 ** 64 - 2), (0, 2 ** 64 - 1)), ("add", 64, (2, 3), (2 ** 64 - 2, 2 ** 64 - 1), (0, 2))):
            self.assertEqual(bin_range(op, width, one, other), told, (op, width, one, other))

    def test_all_of_width_1(self):
        for op, one, other in product(OPS, small_ranges(1), small_ranges(1)):
            self.check(op, 1, one, other)

    def check(self, op, width, one, other):
        told = bin_range(op, width, one, other)
        self.assertEqual(told, told_range(op, width, one, other), (op, width, one, other))
        self.assertIs(type(told), tuple)
        self.assertTrue(0 <= told[0] <= told[1] < 2 ** width)
        if one[1] - one[0] > 20 or other[1] - other[0] > 20:
            return
        for first, second in product(numbers_in(one), numbers_in(other)):
            number = bin_told(op, width, first, second)
            self.assertTrue(number is None or told[0] <= number <= told[1], (op, width, one, other))

    def test_few_numbers(self):
        for rng in sources(150):
            for op, width in product(OPS, WIDTHS):
                self.check(op, width, drawn_range(rng, width), drawn_range(rng, width))
                self.check(op, width, drawn_range(rng, width, 0), drawn_range(rng, width, 0))
                self.check(op, width, drawn_range(rng, width, 2), wide_range(rng, width))
                self.check(op, width, wide_range(rng, width), drawn_range(rng, width, 2))
                self.check(op, width, wide_range(rng, width), wide_range(rng, width))

    def test_ranges_within(self):
        for rng in sources(200, seed=1):
            for op, width in product(OPS, WIDTHS):
                one, other = rng.choice((drawn_range, wide_range))(rng, width), rng.choice((drawn_range, wide_range))(rng, width)
                wide = bin_range(op, width, one, other)
                less = bin_range(op, width, inner_range(rng, one), inner_range(rng, other))
                self.assertTrue(wide[0] <= less[0] <= less[1] <= wide[1], (op, width, one, other))


def pairs_so(pred, width, one, other):
    return [(first, second) for first, second in product(numbers_in(one), numbers_in(other)) if cmp_told(pred, width, first, second)]


class Comparing(unittest.TestCase):
    def check(self, pred, width, one, other):
        told, less = cmp_range(pred, width, one, other), narrowed(pred, width, one, other)
        if pred in ("slt", "sle") and max(one[1], other[1]) >= 2 ** (width - 1):
            self.assertEqual((told, less), ((0, 1), (one, other)))
            return
        so = pairs_so(pred, width, one, other)
        many = len(numbers_in(one)) * len(numbers_in(other))
        self.assertEqual(told, (1, 1) if len(so) == many else (0, 0) if not so else (0, 1), (pred, width, one, other))
        if not so:
            self.assertIsNone(less)
            return
        firsts, seconds = [first for first, _ in so], [second for _, second in so]
        self.assertEqual(less, ((min(firsts), max(firsts)), (min(seconds), max(seconds))), (pred, width, one, other))
        self.assertEqual([type(thing) for thing in (told, less) + less], [tuple] * 4)

    def test_all_of_width_1(self):
        for pred, one, other in product(PREDS, small_ranges(1), small_ranges(1)):
            self.check(pred, 1, one, other)

    def test_all_of_few_numbers(self):
        some = list(combinations_with_replacement(range(5), 2)) + [(126, 127), (127, 128), (128, 129), (255, 255), (254, 255)]
        for pred, one, other in product(PREDS, some, some):
            self.check(pred, 8, one, other)

    def test_drawn(self):
        for rng in sources(150, seed=2):
            for pred, width in product(PREDS, WIDTHS):
                one = drawn_range(rng, width)
                self.check(pred, width, one, drawn_range(rng, width))
                self.check(pred, width, one, rng.choice((one, (one[0], one[0]), (one[1], one[1]))))

    def test_wide(self):
        top = 2 ** 64 - 1
        for pred, one, other, told, less in (
                ("ult", (0, top), (0, top), (0, 1), ((0, top - 1), (1, top))), ("ule", (0, top), (5, 9), (0, 1), ((0, 9), (5, 9))),
                ("ult", (0, top), (0, 0), (0, 0), None), ("ule", (0, 0), (0, top), (1, 1), ((0, 0), (0, top))),
                ("eq", (3, top), (0, 9), (0, 1), ((3, 9), (3, 9))), ("eq", (10, top), (0, 9), (0, 0), None),
                ("ne", (10, top), (0, 9), (1, 1), ((10, top), (0, 9))), ("ne", (0, top), (0, 0), (0, 1), ((1, top), (0, 0))),
                ("ne", (top, top), (0, top), (0, 1), ((top, top), (0, top - 1))), ("ne", (0, top), (7, 7), (0, 1), ((0, top), (7, 7))),
                ("slt", (0, 2 ** 63 - 1), (0, 9), (0, 1), ((0, 8), (1, 9))), ("slt", (0, 2 ** 63), (0, 9), (0, 1), ((0, 2 ** 63), (0, 9))),
                ("sle", (4, 9), (0, 3), (0, 0), None), ("sle", (4, 9), (0, top), (0, 1), ((4, 9), (0, top))),
                ("sle", (top, top), (3, 3), (0, 1), ((top, top), (3, 3))), ("slt", (3, 4), (5, 6), (1, 1), ((3, 4), (5, 6)))):
            self.assertEqual(cmp_range(pred, 64, one, other), told, (pred, one, other))
            self.assertEqual(narrowed(pred, 64, one, other), less, (pred, one, other))


if __name__ == "__main__":
    unittest.main()
