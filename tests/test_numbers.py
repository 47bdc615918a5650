"""[5], [6]: widths, operations, comparisons, casts."""

import unittest

from anypasses.numbers import (CASTS, OPS, PREDS, WIDTHS, bin_told, cast_told, cmp_told, is_of_width, is_width, signed,
                               wrapped)
from making import sources
from oracle import plain_bin, plain_cmp, sign, wrap


def edges(width):
    """0, 1, the half and its neighbours, the greatest number, and some others."""
    half = 2 ** (width - 1)
    near = (0, 1, 2, 3, 7, width - 1, width, width + 1, half - 2, half - 1, half, half + 1, 2 ** width - 2, 2 ** width - 1)
    return sorted({number for number in near if 0 <= number < 2 ** width})


class Numbers(unittest.TestCase):
    def test_tables(self):
        self.assertEqual(WIDTHS, (1, 8, 16, 32, 64))
        self.assertEqual(OPS, ("add", "sub", "mul", "udiv", "sdiv", "urem", "srem", "and", "or", "xor", "shl", "lshr",
                               "ashr"))
        self.assertEqual(PREDS, ("eq", "ne", "ult", "ule", "slt", "sle"))
        self.assertEqual(CASTS, ("zext", "sext", "trunc"))

    def test_is_width(self):
        for width in WIDTHS:
            self.assertIs(is_width(width), True)
        for value in (True, False, 0, 2, 4, 7, 9, 128, -8, None, "8", 8.0, 1.0, "ptr", (8,), [8], {8}, b"8"):
            self.assertIs(is_width(value), False)

    def test_is_of_width(self):
        for width in WIDTHS:
            for number in edges(width):
                self.assertIs(is_of_width(number, width), True)
            for value in (2 ** width, 2 ** width + 1, -1, -2 ** width, True, False, None, "0", 0.0, (0,), [0]):
                self.assertIs(is_of_width(value, width), False)

    def test_what_is_no_width_has_no_numbers(self):
        for width in (True, 0, 7, 128, None, "8"):
            self.assertIs(is_of_width(0, width), False)

    def test_wrapped(self):
        for width in WIDTHS:
            for number in (0, 1, -1, -2, 2 ** width - 1, 2 ** width, -2 ** width, 2 ** width + 5, 10 ** 600, -10 ** 600):
                told = wrapped(number, width)
                self.assertTrue(is_of_width(told, width))
                self.assertEqual((number - told) % 2 ** width, 0)

    def test_signed(self):
        self.assertEqual([signed(number, 1) for number in (0, 1)], [0, -1])
        self.assertEqual([signed(number, 8) for number in (0, 1, 127, 128, 255)], [0, 1, 127, -128, -1])
        for width in WIDTHS:
            for number in edges(width):
                self.assertEqual(signed(number, width), sign(number, width))

    def test_operations(self):
        for width in WIDTHS:
            for op in OPS:
                for one in edges(width):
                    for other in edges(width):
                        told = bin_told(op, width, one, other)
                        self.assertEqual(told, plain_bin(op, width, one, other), (op, width, one, other))
                        self.assertTrue(told is None or is_of_width(told, width))

    def test_division_by_nothing(self):
        for width in WIDTHS:
            for op in OPS:
                for one in edges(width):
                    nothing = op in ("udiv", "sdiv", "urem", "srem")
                    self.assertEqual(bin_told(op, width, one, 0) is None, nothing)

    def test_some_operations_by_hand(self):
        rows = (
            ("add", 8, 200, 100, 44), ("sub", 8, 3, 5, 254), ("mul", 16, 300, 300, 24464), ("udiv", 8, 200, 7, 28),
            ("sdiv", 8, 128, 255, 128), ("sdiv", 8, 249, 254, 3), ("sdiv", 8, 7, 254, 253), ("sdiv", 1, 1, 1, 1),
            ("urem", 8, 200, 7, 4), ("srem", 8, 7, 254, 1), ("srem", 8, 249, 254, 255), ("srem", 8, 128, 255, 0),
            ("and", 8, 12, 10, 8), ("or", 8, 12, 10, 14), ("xor", 8, 12, 10, 6), ("shl", 8, 129, 1, 2),
            ("shl", 8, 1, 8, 1), ("shl", 1, 1, 1, 1), ("lshr", 8, 128, 15, 1), ("ashr", 8, 128, 7, 255),
            ("ashr", 64, 2 ** 63, 255, 2 ** 64 - 1), ("lshr", 32, 2 ** 31, 31, 1), ("mul", 64, 2 ** 63, 3, 2 ** 63),
        )
        for op, width, one, other, told in rows:
            self.assertEqual(bin_told(op, width, one, other), told, (op, width, one, other))

    def test_by_name(self):
        self.assertEqual(bin_told(other=1, one=2, width=8, op="sub"), 1)
        self.assertEqual(cmp_told(other=1, one=2, width=8, pred="ult"), 0)
        self.assertEqual(cast_told(number=200, to=16, width=8, kind="zext"), 200)

    def test_comparisons(self):
        for width in WIDTHS:
            for pred in PREDS:
                for one in edges(width):
                    for other in edges(width):
                        told = cmp_told(pred, width, one, other)
                        self.assertEqual(told, plain_cmp(pred, width, one, other), (pred, width, one, other))
                        self.assertIs(type(told), int)

    def test_casts(self):
        for width in WIDTHS:
            for to in WIDTHS:
                for number in edges(width):
                    self.assertEqual(cast_told("zext", width, to, number), wrap(number, to))
                    self.assertEqual(cast_told("trunc", width, to, number), wrap(number, to))
                    self.assertEqual(cast_told("sext", width, to, number), wrap(sign(number, width), to))
        self.assertEqual(cast_told("sext", 1, 64, 1), 2 ** 64 - 1)

    def test_at_random(self):
        for rng in sources(300):
            width = rng.choice(WIDTHS)
            one, other = rng.randrange(2 ** width), rng.randrange(2 ** width)
            for op in OPS:
                self.assertEqual(bin_told(op, width, one, other), plain_bin(op, width, one, other))
            for pred in PREDS:
                self.assertEqual(cmp_told(pred, width, one, other), plain_cmp(pred, width, one, other))


if __name__ == "__main__":
    unittest.main()
