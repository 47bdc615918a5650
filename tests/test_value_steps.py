"""[32], [33], [34], [51]: steps on values."""

import unittest

from anypasses.rangepapers import known_ranges
from anypasses.rules import RULES
from anypasses.value_steps import VALUE_WORDS, apply_value
from step_oracle import told_value
from stepping import Steps, admitted_text, outcome

MAIN = " define i8 @main(){ b0(): return 0 }"
RULE = {left: k for k, (left, _) in enumerate(RULES)}
RING = """define i8 @main(){ b0(): $0 = input i8 jump b1($0,0) b1(i8 $1,i8 $2): $3 = add i8 $2,$1 jump b2() b2(): print i8 $1
    branch 1,b1($1,$3),b1($1,$3) }"""


class ValueSteps(unittest.TestCase, Steps):
    apply = staticmethod(apply_value)

    def test_words(self):
        self.assertEqual(VALUE_WORDS, ("put_in", "take_lot", "take_out", "use", "use_in"))

    def test_junk(self):
        text = "define i8 @f(i8){ b0(): $1 = add i8 $0, 0 $2 = cmp eq i8 $0, 7 branch $2, b1(), b2() b1(): return $1 b2(): return $0 }" + MAIN
        self.junk(text, ("put_in", "f", 1, 0, (9, "bin", ("add", 8), (("v", 1), ("n", 2)))))
        self.junk(text, ("use", "f", 1, ("v", 0), ("rule", RULE["add a 0"])))
        self.junk(text, ("use_in", "f", 1, 0, ("n", 7)))
        self.junk("define i8 @f(i8){ b0(): $1 = add i8 $0, 0 return $0 }" + MAIN, ("take_out", "f", 1))
        self.junk("define i8 @f(i8){ b0(): $1 = add i8 $0, 0 return $0 }" + MAIN, ("take_lot", "f", (1,)))

    def test_what_is_no_step(self):
        module = admitted_text(RING)
        for step in ((), ("use",), ("use", "main"), ("pick", "main", 2), ("drop", "main"), ("inline", "main", 0, 0), ("put", "main", 0, 0, 0),
                     ["take_out", "main", 3], ("take_out", "main", 3, 0), (None, "main", 3), (["take_out"], "main", 3), (3, 3, 3), None, 0, "take_out"):
            self.assertEqual(outcome(apply_value, module, step), 0, step)
        for name in ("nothing", "", None, 0, ["main"], ("main",), b"main", True):
            for step in (("take_out", name, 3), ("put_in", name, 0, 0, 0), ("use", name, 0, 0, 0), ("use_in", name, 0, 0, 0), ("take_lot", name, (3,))):
                self.assertEqual(outcome(apply_value, module, step), 1, step)

    def test_against_the_words(self):
        found = self.against(told_value, VALUE_WORDS, 350)
        for word, ats in (("put_in", (0, 1, 2, 3, 4)), ("take_lot", (0, 1, 2, 3)), ("take_out", (0, 1, 2)), ("use", (0, 1, 2, 3, 4)),
                          ("use_in", (0, 1, 2, 3, 4))):
            for at in ats + ("fits",):
                self.assertGreater(found.get((word, at), 0), 3, (word, at))


class PutIn(unittest.TestCase, Steps):
    apply = staticmethod(apply_value)
    text = """@t = global i8 [1] define i8 @f(i8, ptr){ b0(): $2 = input i8 branch 1, b1($2), b2() b1(i8 $3): $4 = add i8 $3, 1 return $4
        b2(): return 0 b9(): $5 = input i8 stop }""" + MAIN

    def put(self, label, place, op, told=None):
        new = outcome(apply_value, admitted_text(self.text), ("put_in", "f", label, place, op))
        self.assertEqual(new if type(new) is int else None, told, (label, place, op))

    def test_places(self):
        op = (7, "bin", ("add", 8), (("v", 0), ("n", 2)))
        self.fits(self.text, ("put_in", "f", 1, 0, op), self.text.replace("b1(i8 $3):", "b1(i8 $3): $7 = add i8 $0, 2"))
        self.fits(self.text, ("put_in", "f", 1, 1, op), self.text.replace("return $4", "$7 = add i8 $0, 2 return $4"))
        self.fits(self.text, ("put_in", "f", 2, 0, op), self.text.replace("return 0 b9", "$7 = add i8 $0, 2 return 0 b9"))
        self.put(1, 2, op, 3)
        self.put(2, 1, op, 3)
        self.put(3, 0, op, 2)

    def test_ops(self):
        for op, told in (((7, "cmp", ("eq", 8), (("v", 0), ("n", 255))), None), ((7, "cmp", ("eq", 8), (("v", 0), ("n", 256))), 4),
                         ((7, "select", ("ptr",), (("n", 1), ("v", 1), ("g", "t"))), None), ((7, "select", ("ptr",), (("n", 2), ("v", 1), ("g", "t"))), 4),
                         ((7, "select", ("ptr",), (("n", 1), ("v", 0), ("g", "t"))), 4), ((7, "select", ("ptr",), (("n", 1), ("v", 1), ("g", "u"))), 4),
                         ((7, "cast", ("zext", 8, 16), (("v", 0),)), None), ((7, "cast", ("zext", 8, 8), (("v", 0),)), 4),
                         ((7, "cast", ("trunc", 8, 16), (("v", 0),)), 4), ((7, "cast", ("trunc", 8, 1), (("v", 0),)), None),
                         ((7, "at", (8,), (("v", 1), ("v", 0))), None), ((7, "at", (8,), (("v", 0), ("v", 1))), 4),
                         ((7, "bin", ("udiv", 8), (("v", 0), ("n", 3))), None), ((7, "bin", ("udiv", 8), (("v", 0), ("n", 0))), 4),
                         ((7, "bin", ("srem", 8), (("v", 0), ("v", 0))), 4), ((7, "bin", ("add", 16), (("v", 0), ("n", 0))), 4),
                         ((7, "alloca", (8, 1), ()), 4), ((7, "load", (8,), (("v", 1),)), 4), ((7, "input", (8,), ()), 4), ((None, "print", (8,), (("v", 0),)), 4),
                         ((7, "call", ("main",), ()), 4), ((None, "store", (8,), (("v", 0), ("v", 1))), 4), ((7, "bin", ("add", 8), (("v", 0),)), 4),
                         ((7, "bin", ("plus", 8), (("v", 0), ("v", 0))), 4), ((True, "bin", ("add", 8), (("v", 0), ("v", 0))), 4), (None, 4), ((), 4),
                         ([7, "bin", ("add", 8), (("v", 0), ("v", 0))], 4), ((7, "bin", ("add", 8), (("v", False), ("v", 0))), 4),
                         ((7, "bin", ("add", 8), (("v", 77), ("n", 0))), 4), ((7, "bin", ("add", 8), (("v", 7), ("n", 0))), 4)):
            self.put(2, 0, op, told)
            self.put(9, 0, op, told)

    def test_values_of_the_function(self):
        for value, told in ((0, 4), (1, 4), (2, 4), (3, 4), (4, 4), (5, 4), (6, None), (7, None), (2 ** 63 - 1, None)):
            self.put(2, 0, (value, "bin", ("add", 8), (("n", 1), ("n", 2))), told)

    def test_args_must_stand(self):
        for label, place, value, told in ((0, 0, 2, 4), (0, 1, 2, None), (1, 0, 3, None), (1, 0, 4, 4), (1, 1, 4, None), (2, 0, 2, None), (2, 0, 3, 4), (2, 0, 4, 4),
                                          (2, 0, 5, 4), (9, 0, 5, None), (9, 0, 3, None), (9, 0, 4, None)):
            self.put(label, place, (7, "bin", ("add", 8), (("v", value), ("n", 2))), told)


class TakeOut(unittest.TestCase, Steps):
    apply = staticmethod(apply_value)

    def test_ops(self):
        text = """define i8 @f(i8, ptr){ b0(): $2 = load i8 $1 $3 = input i8 $4 = call @f($2, $1) $5 = udiv i8 $3, $0 $6 = udiv i8 $3, 3
            $7 = urem i8 3, 0 $8 = select ptr 1, $1, $1 $9 = zext i8 $0 to i16 $10 = at i8 $1, 1 $11 = alloca i8, 1 $12 = cmp eq i8 $0, $0 jump b1(3)
            b1(i8 $13): return 0 b2(): $14 = add i8 $14, 1 stop }""" + MAIN
        for value, op in ((6, "$6 = udiv i8 $3, 3"), (8, "$8 = select ptr 1, $1, $1"), (9, "$9 = zext i8 $0 to i16"), (10, "$10 = at i8 $1, 1"),
                          (11, "$11 = alloca i8, 1"), (12, "$12 = cmp eq i8 $0, $0")):
            self.fits(text, ("take_out", "f", value), text.replace(op, ""))
        for value in (0, 1, 2, 3, 4, 5, 7, 13, 14, 15, True, None):
            self.refused(text, ("take_out", "f", value), 2)

    def test_uses_hold_it(self):
        for body in ("print i8 $1 return 0", "return $1", "jump b1($1) b1(i8 $2): return 0", "$2 = add i8 1, $1 return 0", "return 0 b1(): print i8 $1 stop"):
            self.refused("define i8 @main(){ b0(): $1 = add i8 1, 1 " + body + "}", ("take_out", "main", 1), 2)


class Use(unittest.TestCase, Steps):
    apply = staticmethod(apply_value)

    def test_fold(self):
        text = "define i8 @main(){ b0(): $0 = add i8 250, 9 $1 = add i8 $0, $0 print i8 $0 branch 1, b1($0), b1($0) b1(i8 $2): return $0 }"
        step = ("use", "main", 0, ("n", 3), ("fold",))
        self.fits(text, step, "define i8 @main(){ b0(): $0 = add i8 250, 9 $1 = add i8 3, 3 print i8 3 branch 1, b1(3), b1(3) b1(i8 $2): return 3 }")
        for operand, reason, at in ((("n", 4), ("fold",), 4), (("n", 259), ("fold",), 3), (("n", 3), ("fold", 0), 4), (("n", 3), (), 4), (("n", 3), ["fold"], 4),
                                    (("n", 3), "fold", 4), (("n", 3), ("folded",), 4), (("n", 3), (["fold"],), 4), (("n", True), ("fold",), 3),
                                    (["n", 3], ("fold",), 3), (3, ("fold",), 3), (("n", 3.0), ("fold",), 3), (("v", 1), ("fold",), 3)):
            self.refused(text, step[:3] + (operand, reason), at)
        self.refused(text, ("use", "main", 2, ("n", 3), ("fold",)), 4)
        self.refused(text, ("use", "main", 1, ("n", 3), ("fold",)), 4)
        self.refused("define i8 @main(){ b0(): $0 = udiv i8 3, 0 return $0 }", ("use", "main", 0, ("n", 0), ("fold",)), 4)

    def test_rule(self):
        text = "define i8 @f(i8, i8){ b0(): $2 = add i8 $0, 0 $3 = mul i8 $1, 8 $4 = shl i8 $1, 3 $5 = add i8 $2, $3 return $5 }" + MAIN
        self.refused(text, ("use", "f", 3, ("v", 4), ("rule", RULE["mul a p"])), 3)
        swapped = text.replace("$3 = mul i8 $1, 8 $4 = shl i8 $1, 3", "$4 = shl i8 $1, 3 $3 = mul i8 $1, 8")
        self.fits(swapped, ("use", "f", 3, ("v", 4), ("rule", RULE["mul a p"])), swapped.replace("$2, $3", "$2, $4"))
        self.fits(text, ("use", "f", 2, ("v", 0), ("rule", RULE["add a 0"])), text.replace("$2, $3", "$0, $3"))
        for operand, reason, at in ((("v", 1), ("rule", 0), 4), (("v", 0), ("rule", 1), 4), (("v", 0), ("rule", False), 4), (("v", 0), ("rule", 63), 4),
                                    (("v", 0), ("rule", -1), 4), (("v", 0), ("rule", "add a 0"), 4), (("v", 0), ("rule", RULES[0]), 4), (("v", 0), ("rule",), 4),
                                    (("v", 0), ("rule", None), 4), (("v", 0), ("rule", 0, 0), 4), (("v", False), ("rule", 0), 3)):
            self.refused(text, ("use", "f", 2, operand, reason), at)

    def test_params_of_the_own_block(self):
        """They stand ahead of its ops, but not where it begins."""
        text = "define i8 @f(i8){ b0(): jump b1($0, 3) b1(i8 $1, i8 $2): $3 = add i8 $1, 0 $4 = or i8 $2, 0 $5 = sub i8 $3, $4 return $5 }" + MAIN
        self.fits(text, ("use", "f", 3, ("v", 1), ("rule", RULE["add a 0"])), text.replace("sub i8 $3", "sub i8 $1"))
        self.fits(text, ("use", "f", 4, ("v", 2), ("rule", RULE["or a 0"])), text.replace("$3, $4", "$3, $2"))

    def test_same(self):
        text = """define i8 @f(i8, i8){ b0(): $2 = add i8 $0, $1 $3 = add i8 $0, $1 $4 = add i8 $1, $0 $5 = udiv i8 $0, $1 $6 = udiv i8 $0, $1
            $7 = input i8 $8 = input i8 $9 = add i8 $3, $6 $10 = alloca i8, 1 $11 = alloca i8, 1 return $9 }""" + MAIN
        self.fits(text, ("use", "f", 3, ("v", 2), ("same", 2)), text.replace("$9 = add i8 $3", "$9 = add i8 $2"))
        for value, operand, reason, at in ((2, ("v", 3), ("same", 3), 3), (3, ("v", 2), ("same", 3), 4), (4, ("v", 2), ("same", 2), 4), (6, ("v", 5), ("same", 5), 4),
                                           (8, ("v", 7), ("same", 7), 4), (11, ("v", 10), ("same", 10), 4), (3, ("v", 0), ("same", 0), 4),
                                           (3, ("v", 2), ("same", ("v", 2)), 4), (3, ("v", 2), ("same", 2.0), 4), (3, ("v", 2), ("same",), 4), (3, ("n", 2), ("same", 2), 4),
                                           (0, ("v", 1), ("same", 1), 2), (3, ("v", 3), ("same", 3), 3)):
            self.refused(text, ("use", "f", value, operand, reason), at)
        ring = "define i8 @main(){ b0(): return 0 b1(): $1 = add i8 1, 2 $2 = add i8 1, 2 print i8 $1 print i8 $2 stop }"
        self.fits(ring, ("use", "main", 1, ("v", 2), ("same", 2)), ring.replace("print i8 $1", "print i8 $2"))
        self.fits(ring, ("use", "main", 1, ("v", 1), ("same", 1)), ring)
        one = "define i8 @main(){ b0(): $9 = cmp eq i8 7, 7 $1 = cmp eq i8 7, 7 branch $1, b1(), b1() b1(): return 0 }"
        self.fits(one, ("use", "main", 1, ("v", 9), ("same", 9)), one.replace("branch $1", "branch $9"))
        self.refused(one.replace("$9 =", "$0 ="), ("use", "main", 1, ("v", False), ("same", False)), 3)
        self.refused(one.replace("$9 =", "$0 ="), ("use", "main", 1, ("v", 0), ("same", False)), 4)

    def test_block_param(self):
        text = """define i8 @f(i8, i1){ b0(): branch $1, b1($0, 3), b1($0, 4) b1(i8 $2, i8 $3): $4 = add i8 $2, $3 branch $1, b1($2, 3), b2() b2(): return $2
            b7(): jump b1($0, 3) }""" + MAIN
        step = ("use", "f", 2, ("v", 0), ("block_param",))
        self.fits(text, step, text.replace("$2, 3)", "$0, 3)").replace("add i8 $2", "add i8 $0").replace("return $2", "return $0"))
        self.refused(text, ("use", "f", 3, ("n", 3), ("block_param",)), 4)
        self.refused(text, ("use", "f", 2, ("v", 3), ("block_param",)), 3)
        self.refused(text, ("use", "f", 2, ("v", 2), ("block_param",)), 3)
        self.refused(text, ("use", "f", 2, ("v", 4), ("block_param",)), 3)
        self.refused(text, ("use", "f", 2, ("v", 1), ("block_param",)), 3)
        self.refused(text, ("use", "f", 0, ("n", 3), ("block_param",)), 2)
        self.refused(text, ("use", "f", 4, ("v", 0), ("block_param",)), 4)
        self.refused(text.replace("b7(): jump b1($0, 3)", "b7(): jump b1(0, 3)"), step, 4)
        self.refused(text, step[:4] + (("block_param", 2),), 4)

    def test_other_reasons_for_params(self):
        text = "define i8 @f(i8){ b0(): $1 = add i8 $0, 0 jump b1($1) b1(i8 $2): return $2 }" + MAIN
        for reason in (("same", 1), ("fold",), ("rule", 0)):
            self.refused(text, ("use", "f", 2, ("v", 1), reason), 4)
        self.fits(text, ("use", "f", 2, ("v", 1), ("block_param",)), text.replace("return $2", "return $1"))

    def test_block_params_that_are_not_reached(self):
        text = "define i8 @main(){ b0(): $0 = input i8 return $0 b1(i8 $1, i8 $2): print i8 $1 jump b2($1) b2(i8 $3): jump b2($3) }"
        self.fits(text, ("use", "main", 1, ("n", 9), ("block_param",)), text.replace("print i8 $1 jump b2($1)", "print i8 9 jump b2(9)"))
        self.fits(text, ("use", "main", 1, ("v", 3), ("block_param",)), text.replace("print i8 $1 jump b2($1)", "print i8 $3 jump b2($3)"))
        self.refused(text, ("use", "main", 1, ("v", 2), ("block_param",)), 3)
        self.refused(text, ("use", "main", 1, ("v", 1), ("block_param",)), 3)
        self.fits(text, ("use", "main", 3, ("v", 1), ("block_param",)), text.replace("b2($3)", "b2($1)"))

    def test_range(self):
        text = """define i8 @main(){ b0(): $0 = input i8 $1 = and i8 $0, 7 $2 = cmp ult i8 $1, 8 branch $2, b1(4), b2() b1(i8 $3): print i8 $3 return $3
            b2(): return 1 b3(): $4 = and i8 0, 0 return $4 }"""
        paper = known_ranges(admitted_text(text)[1][0])
        self.fits(text, ("use", "main", 2, ("n", 1), ("range", paper)), text.replace("branch $2", "branch 1"))
        self.fits(text, ("use", "main", 3, ("n", 4), ("range", paper)), text.replace("print i8 $3 return $3", "print i8 4 return 4"))
        self.fits(text, ("use", "main", 3, ("n", 4), ("range", paper + ((3, ()),))), text.replace("print i8 $3 return $3", "print i8 4 return 4"))
        for value, operand, reason, at in ((2, ("n", 0), ("range", paper), 4), (1, ("n", 7), ("range", paper), 4), (3, ("n", 5), ("range", paper), 4),
                                           (4, ("n", 0), ("range", paper + ((3, ()),)), 4), (2, ("n", 1), ("range", ()), 4), (2, ("n", 1), ("range", list(paper)), 4),
                                           (2, ("n", 1), ("range", None), 4), (2, ("n", 1), ("range",), 4), (2, ("n", 1), ("range", paper[1:]), 4),
                                           (2, ("v", 2), ("range", paper), 3), (2, ("n", 2), ("range", paper), 3), (2, ("n", 1), ("range", paper, paper), 4)):
            self.refused(text, ("use", "main", value, operand, reason), at)
        self.refused(text, ("use", "main", 3, ("n", 4), ("range", ((0, ()), (1, ((3, 4, 5),))))), 4)
        self.refused(text, ("use", "main", 3, ("n", 4), ("range", ((0, ()), (1, ()), (2, ())))), 4)

    def test_range_tells_numbers_alone(self):
        """What a value is equal to may be the number of a value that stands; this is no reason for that value."""
        text = "define i8 @f(i8, i8){ b0(): $2 = add i8 $0, 1 $3 = add i8 1, 1 $4 = add i8 $3, $2 return $4 }" + MAIN
        paper = known_ranges(admitted_text(text)[1][0])
        self.refused(text, ("use", "f", 3, ("v", 2), ("range", paper)), 4)
        self.fits(text, ("use", "f", 3, ("n", 2), ("range", paper)), text.replace("add i8 $3, $2", "add i8 2, $2"))

    def test_reached_without_a_pair(self):
        """A block to which a run never comes may be reached by ways, but no paper has to tell of it."""
        text = "define i8 @main(){ b0(): branch 0, b1(3), b2() b1(i8 $1): return $1 b2(): return 1 }"
        paper = known_ranges(admitted_text(text)[1][0])
        self.assertEqual(paper, ((0, ()), (2, ())))
        self.refused(text, ("use", "main", 1, ("n", 3), ("range", paper)), 4)
        self.fits(text, ("use", "main", 1, ("n", 4), ("range", ((0, ()), (1, ((1, 4, 4),)), (2, ())))), text.replace("return $1", "return 4"))

    def test_where_the_operand_stands(self):
        text = """@t = global i8 [0] define i8 @f(i8, ptr){ b0(): $2 = add i8 7, 7 $3 = add i8 7, 7 branch 1, b1(), b2() b1(): $4 = add i8 7, 7 $5 = at i8 $1, 1
            $6 = at i8 $1, 1 jump b3() b2(): $7 = add i8 7, 7 jump b3() b3(): $8 = add i8 7, 7 return $8 }""" + MAIN
        for value, other, at in ((3, 2, None), (2, 3, 3), (4, 2, None), (4, 3, None), (7, 4, 3), (8, 2, None), (8, 4, 3), (8, 7, 3), (6, 5, None), (5, 6, 3),
                                 (4, 5, 3), (6, 4, 3)):
            found = outcome(apply_value, admitted_text(text), ("use", "f", value, ("v", other), ("same", other)))
            self.assertEqual(found if type(found) is int else None, at, (value, other))
        self.refused(text, ("use", "f", 5, ("g", "t"), ("same", 6)), 4)
        self.refused(text, ("use", "f", 5, ("g", "u"), ("same", 6)), 3)
        self.refused(text, ("use", "f", 5, ("n", 1), ("same", 6)), 3)
        self.refused(text, ("use", "f", 77, ("n", 1), ("fold",)), 2)

    def test_all_places(self):
        """Wherever the value is an operand it is replaced, also in what is not reached."""
        text = """define i8 @main(){ b0(): $0 = and i1 1, 1 branch $0, b1($0), b2($0) b1(i1 $1): return 0 b2(i1 $2): return 0 b3(): $3 = xor i1 $0, $0 branch $0, b1($0), b3() }"""
        self.fits(text, ("use", "main", 0, ("n", 1), ("fold",)), """define i8 @main(){ b0(): $0 = and i1 1, 1 branch 1, b1(1), b2(1) b1(i1 $1): return 0 b2(i1 $2): return 0
            b3(): $3 = xor i1 1, 1 branch 1, b1(1), b3() }""")


class UseIn(unittest.TestCase, Steps):
    apply = staticmethod(apply_value)
    text = """define i8 @f(i8, i8, i1){ b0(): $3 = cmp eq i8 $0, $1 branch $3, b1(), b2() b1(): $4 = add i8 $0, $1 print i8 $0 branch $3, b3(), b4() b2(): print i8 $0
        branch $3, b4(), b4() b3(): return $0 b4(): return $1 b5(): print i8 $0 branch $3, b6(), b6() b6(): return $0 }""" + MAIN

    def test_conditions(self):
        """Behind one side the condition is its number, in all that the block dominates, and so in what is not reached."""
        self.fits(self.text, ("use_in", "f", 1, 3, ("n", 1)), self.text.replace("branch $3, b3(), b4()", "branch 1, b3(), b4()").replace("branch $3, b6()", "branch 1, b6()"))
        self.fits(self.text, ("use_in", "f", 2, 3, ("n", 0)), self.text.replace("branch $3, b4()", "branch 0, b4()").replace("branch $3, b6()", "branch 0, b6()"))
        self.refused(self.text, ("use_in", "f", 1, 3, ("n", 0)), 4)
        self.refused(self.text, ("use_in", "f", 2, 3, ("n", 1)), 4)
        self.refused(self.text, ("use_in", "f", 1, 3, ("v", 2)), 4)
        self.refused(self.text, ("use_in", "f", 1, 3, ("n", True)), 4)

    def test_comparisons(self):
        new = self.text.replace("$4 = add i8 $0, $1 print i8 $0", "$4 = add i8 $1, $1 print i8 $1").replace("b3(): return $0", "b3(): return $1")
        self.fits(self.text, ("use_in", "f", 1, 0, ("v", 1)), new.replace("b5(): print i8 $0", "b5(): print i8 $1").replace("b6(): return $0", "b6(): return $1"))
        self.fits(self.text, ("use_in", "f", 1, 1, ("v", 0)), self.text.replace("add i8 $0, $1", "add i8 $0, $0"))
        for label, value, operand, at in ((2, 0, ("v", 1), 3), (1, 0, ("v", 0), 4), (1, 0, ("n", 1), 4), (1, 2, ("n", 1), 3), (1, 4, ("n", 1), 3), (1, 77, ("n", 1), 3),
                                          (1, True, ("v", 0), 3), (1, None, ("v", 0), 3), (1, [0], ("v", 0), 3), (1, 0, ["v", 1], 4), (1, 0, ("v", True), 4)):
            self.refused(self.text, ("use_in", "f", label, value, operand), at)

    def test_preds_and_sides(self):
        for pred, label, told in (("eq", 1, None), ("eq", 2, 3), ("ne", 1, 3), ("ne", 2, None), ("ule", 1, 3), ("ule", 2, 3), ("ult", 2, 3), ("sle", 1, 3)):
            text = "define i8 @f(i8){ b0(): $1 = cmp " + pred + " i8 $0, 9 branch $1, b1(), b2() b1(): return $0 b2(): return $0 }" + MAIN
            found = outcome(apply_value, admitted_text(text), ("use_in", "f", label, 0, ("n", 9)))
            self.assertEqual(found if type(found) is int else None, told, (pred, label))

    def test_functions_called_eq(self):
        text = "define i1 @eq(i8, i8){ b0(): return 1 } define i8 @f(i8){ b0(): $1 = call @eq($0, 9) branch $1, b1(), b2() b1(): return $0 b2(): return 3 }" + MAIN
        self.refused(text, ("use_in", "f", 1, 0, ("n", 9)), 3)

    def test_a_value_compared_with_itself(self):
        text = "define i8 @f(i8){ b0(): $1 = cmp eq i8 $0, $0 branch $1, b1(), b2() b1(): return $0 b2(): return 3 }" + MAIN
        self.fits(text, ("use_in", "f", 1, 0, ("v", 0)), text)
        self.refused(text, ("use_in", "f", 1, 0, ("v", 1)), 4)

    def test_blocks(self):
        self.refused(self.text, ("use_in", "f", 0, 3, ("n", 1)), 2)
        self.refused(self.text, ("use_in", "f", 4, 3, ("n", 1)), 2)
        self.refused(self.text, ("use_in", "f", 6, 3, ("n", 1)), 2)
        self.refused(self.text, ("use_in", "f", 7, 3, ("n", 1)), 2)
        for end in ("jump b1()", "branch $2, b1(), b1()", "branch 1, b1(), b2()", "branch $2, b2(), b2()"):
            text = "define i8 @f(i8, i8, i1){ b0(): " + end + " b1(): return $0 b2(): return 3 }" + MAIN
            self.refused(text, ("use_in", "f", 1, 2, ("n", 1)), 2)
        for more, at in (("b3(): jump b1()", 2), ("b3(): jump b2()", None), ("b3(): jump b3()", None)):
            text = "define i8 @f(i8, i8, i1){ b0(): branch $2, b1(), b2() b1(): return $0 b2(): return 3 " + more + "}" + MAIN
            found = outcome(apply_value, admitted_text(text), ("use_in", "f", 1, 2, ("n", 1)))
            self.assertEqual(found if type(found) is int else None, at, more)
        twice = "define i8 @f(i1){ b0(): branch $0, b1(3), b1(4) b1(i8 $1): return $1 }" + MAIN
        self.refused(twice, ("use_in", "f", 1, 0, ("n", 1)), 2)
        loop = "define i8 @f(i1){ b0(): branch $0, b1(), b2() b1(): branch $0, b1(), b2() b2(): return 3 }" + MAIN
        self.refused(loop, ("use_in", "f", 1, 0, ("n", 1)), 2)

    def test_args_handed_on(self):
        text = "define i8 @f(i1){ b0(): branch $0, b1(), b2($0) b1(): jump b2($0) b2(i1 $1): branch $0, b3($0), b3($1) b3(i1 $2): return 3 }" + MAIN
        self.fits(text, ("use_in", "f", 1, 0, ("n", 1)), text.replace("b1(): jump b2($0)", "b1(): jump b2(1)"))


class Lots(unittest.TestCase, Steps):
    apply = staticmethod(apply_value)

    def test_steps(self):
        self.fits(RING, ("take_lot", "main", (2, 3)), """define i8 @main(){ b0(): $0 = input i8 jump b1($0) b1(i8 $1): jump b2() b2(): print i8 $1
            branch 1,b1($1),b1($1) }""")
        for values, at in (((2,), 3), ((3,), 3), ((1, 2, 3), 3), ((0, 2, 3), 2), ((3, 2), 2), ((2, 3, 3), 2), ((), 2), ([2, 3], 2), ((2, 3.0), 2), ((2, 9), 2), (None, 2)):
            self.refused(RING, ("take_lot", "main", values), at)


if __name__ == "__main__":
    unittest.main()
