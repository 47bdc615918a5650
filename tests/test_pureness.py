"""[30]: pure ops, and what they fold to."""

import unittest
from itertools import product

from anypasses.numbers import CASTS, OPS, PREDS, WIDTHS
from anypasses.pureness import folded, is_pure
from anypasses.reading import read_op
from making import sources
from oracle import plain_bin, plain_cmp, sign, wrap

DIVISIONS = ("udiv", "sdiv", "urem", "srem")
V, N, ZERO = ("v", 3), ("n", 5), ("n", 0)


class Pure(unittest.TestCase):
    def test_bin(self):
        for op, one, other in product(OPS, (V, N, ZERO), (V, N, ZERO)):
            told = is_pure((9, "bin", (op, 8), (one, other)))
            self.assertIs(told, op not in DIVISIONS or other == N, (op, one, other))

    def test_other_kinds(self):
        for text, told in (("$9 = cmp ult i8 $1, 0", True), ("$9 = select i8 $1, 0, $3", True), ("$9 = select ptr $1, $2, @g", True),
                           ("$9 = zext i8 $1 to i16", True), ("$9 = sext i8 $1 to i16", True), ("$9 = trunc i16 $1 to i8", True),
                           ("$9 = at i8 $1, 0", True), ("$9 = at i8 @g, $1", True), ("$9 = alloca i8, 3", False), ("$9 = load i8 $1", False),
                           ("$9 = input i8", False), ("store i8 0, $1", False), ("print i8 $1", False), ("$9 = call @f($1)", False),
                           ("call @f()", False), ("$9 = call @udiv($1, 3)", False), ("$9 = call @add($1, 3)", False), ("$9 = call @zext(3)", False)):
            self.assertIs(is_pure(read_op(text)), told, text)


class Folded(unittest.TestCase):
    def test_numbers(self):
        for rng in sources(300):
            width = rng.choice(WIDTHS)
            one, other = [rng.choice((0, 1, 2 ** width - 1, 2 ** (width - 1), rng.randrange(2 ** width))) for _ in range(2)]
            args = (("n", one), ("n", other))
            for op in OPS:
                told = None if op in DIVISIONS and other == 0 else plain_bin(op, width, one, other)
                self.assertEqual(folded((9, "bin", (op, width), args)), told)
            for pred in PREDS:
                self.assertEqual(folded((9, "cmp", (pred, width), args)), plain_cmp(pred, width, one, other))
            for taken in (0, 1):
                self.assertEqual(folded((9, "select", (width,), (("n", taken),) + args)), (other, one)[taken])
            for kind, to in product(CASTS, WIDTHS):
                if (to < width) if kind == "trunc" else (to > width):
                    number = sign(one, width) if kind == "sext" else one
                    self.assertEqual(folded((9, "cast", (kind, width, to), args[:1])), wrap(number, to))

    def test_none(self):
        for text in ("$9 = add i8 $1, 0", "$9 = add i8 0, $1", "$9 = mul i8 $1, $1", "$9 = udiv i8 7, 0", "$9 = srem i8 7, 0", "$9 = sdiv i8 7, $2",
                     "$9 = cmp eq i8 $1, $1", "$9 = cmp eq i8 1, $1", "$9 = select i8 1, $1, 3", "$9 = select i8 1, 3, $1", "$9 = select i8 $1, 3, 3",
                     "$9 = select ptr 1, @g, @g", "$9 = zext i8 $1 to i16", "$9 = at i8 @g, 1", "$9 = alloca i8, 1", "$9 = input i8",
                     "$9 = load i8 @g", "print i8 1", "store i8 1, @g", "$9 = call @f(1, 2)", "call @f()", "$9 = call @add(1, 2)",
                     "$9 = call @eq(1, 2)", "$9 = call @zext(1)", "$9 = call @udiv(1, 2)"):
            self.assertIsNone(folded(read_op(text)), text)


if __name__ == "__main__":
    unittest.main()
