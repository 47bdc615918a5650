"""[58]: weights."""

import unittest

from anypasses.numbers import OPS, PREDS
from anypasses.pureness import is_pure
from anypasses.webs import reached_labels
from anypasses.weights import op_weight, weight
from making import sources
from passing import MAIN, any_module
from stepping import admitted_text

KINDS = ("bin", "cmp", "select", "cast", "at")


def weight_by_words(op):
    if op[1] not in KINDS:
        return 0
    word = op[2][0] if op[1] in ("bin", "cmp") else op[1]
    weights = {"udiv": 9, "sdiv": 9, "urem": 9, "srem": 9, "mul": 8, "sub": 4, "select": 2, "cast": 2, "at": 1}
    told = 2 if op[1] == "cmp" else weights.get(word, 3)
    return told + (word in ("add", "mul", "and", "or", "xor", "eq", "ne") and op[3][0][0] == "n")


def sums_by_words(function):
    """Heights are looked for again and again, until all are found."""
    reached = reached_labels(function)
    ops = [op for block in function[3] if block[0] in reached for op in block[2] if op[1] in KINDS]
    made = {op[0] for op in ops}
    heights = {}
    while len(heights) < len(ops):
        for op in ops:
            below = [arg[1] for arg in op[3] if arg[0] == "v" and arg[1] in made]
            if all(value in heights for value in below):
                heights[op[0]] = 1 + max([heights[value] for value in below], default=0)
    return sum(weight_by_words(op) for op in ops), sum(heights.values())


class Weights(unittest.TestCase):
    def test_each_kind_and_word(self):
        heavy = {"udiv": 9, "sdiv": 9, "urem": 9, "srem": 9, "mul": 8, "sub": 4}
        turned = ("add", "mul", "and", "or", "xor")
        for word in OPS:
            for args, more in (((("v", 0), ("v", 1)), 0), ((("v", 0), ("n", 1)), 0), ((("n", 1), ("v", 0)), 1), ((("n", 1), ("n", 2)), 1)):
                self.assertEqual(op_weight((7, "bin", (word, 8), args)), heavy.get(word, 3) + (more if word in turned else 0), (word, args))
        for pred in PREDS:
            for args, more in (((("v", 0), ("v", 1)), 0), ((("v", 0), ("n", 1)), 0), ((("n", 1), ("v", 0)), 1)):
                self.assertEqual(op_weight((7, "cmp", (pred, 8), args)), 2 + (more if pred in ("eq", "ne") else 0))
        for kind, info, args, told in (("select", (8,), (("n", 1), ("v", 0), ("v", 0)), 2), ("cast", ("zext", 8, 16), (("n", 1),), 2), ("cast", ("trunc", 16, 8), (("v", 1),), 2),
                                       ("at", (8,), (("g", "t"), ("n", 1)), 1), ("at", (8,), (("v", 1), ("v", 1)), 1)):
            self.assertEqual(op_weight((7, kind, info, args)), told)

    def test_what_is_not_weighed(self):
        for op in ((7, "load", (8,), (("v", 0),)), (None, "store", (8,), (("n", 1), ("v", 0))), (7, "call", ("add",), (("n", 1),)), (7, "input", (8,), ()), (7, "alloca", (8, 1), ()),
                   (None, "print", (8,), (("n", 1),))):
            self.assertEqual(op_weight(op), 0)

    def told(self, body):
        return weight(admitted_text("define i8 @f(i8, ptr){ " + body + "}" + MAIN)[1][0])

    def test_rows_of_ops(self):
        self.assertEqual(self.told("b0(): return 0"), (0, 0))
        self.assertEqual(self.told("b0(): $2 = add i8 $0, 1 $3 = add i8 $2, 1 $4 = add i8 $2, $3 return $4"), (9, 6))
        self.assertEqual(self.told("b0(): $2 = add i8 1, $0 $3 = sub i8 1, $2 return 0"), (8, 3))
        self.assertEqual(self.told("b0(): $2 = udiv i8 $0, 0 $3 = select i8 1, $2, $0 $4 = cmp eq i8 $3, $2 return 0"), (13, 6))

    def test_ops_between_that_are_not_weighed(self):
        """What is loaded begins anew, and so does a param of a block."""
        self.assertEqual(self.told("b0(): $2 = add i8 $0, 1 store i8 $2, $1 $3 = load i8 $1 $4 = add i8 $3, $2 return $4"), (6, 3))
        self.assertEqual(self.told("b0(): $2 = add i8 $0, 1 jump b1($2) b1(i8 $3): $4 = add i8 $3, 1 return $4"), (6, 2))

    def test_over_blocks(self):
        """Blocks stand in any order; a loop uses what was made ahead of it."""
        self.assertEqual(self.told("b0(): $2 = add i8 $0, 1 jump b3() b1(): $4 = add i8 $3, $2 return $4 b3(): $3 = add i8 $2, 1 jump b1()"), (9, 6))
        self.assertEqual(self.told("b0(): $2 = add i8 $0, 1 jump b1($2) b1(i8 $3): $4 = add i8 $3, $2 $5 = cmp ult i8 $4, $2 branch $5, b1($4), b2() b2(): return $4"), (8, 6))

    def test_unreached_blocks(self):
        self.assertEqual(self.told("b0(): $2 = add i8 $0, 1 return $2 b1(): $3 = mul i8 $3, $2 jump b1()"), (3, 1))

    def test_long_rows(self):
        rows = " ".join(f"${at} = add i8 ${at - 1}, 1" for at in range(3, 1900))
        self.assertEqual(self.told("b0(): $2 = add i8 $0, 1 " + rows + " return 0"), (3 * 1898, 1898 * 1899 // 2))

    def test_drawn(self):
        for rng in sources(150):
            for function in any_module(rng)[1]:
                told = weight(function)
                self.assertEqual(told, sums_by_words(function))
                self.assertIs(type(told), tuple)
                for block in function[3]:
                    for op in block[2]:
                        self.assertEqual(op_weight(op), weight_by_words(op))
                        self.assertTrue(op_weight(op) > 0 or not is_pure(op))


if __name__ == "__main__":
    unittest.main()
