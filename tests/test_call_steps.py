"""[43] to [46]: steps on calls and on whole functions."""

import unittest

from anypasses.call_steps import CALL_WORDS, apply_call
from anypasses.callees import quiet_fuel
from anypasses.machine import run_module
from anypasses.reading import read_module
from anypasses.runs import is_beginning
from anypasses.writing import module_text
from call_oracle import ARITIES, named, told_call
from callers import calling_module
from drawing import Drawer, spoilt
from making import sources
from stepping import INPUTS, Steps, admitted_text, outcome

MAIN = " define i8 @main(){ b0(): return 0 }"


class CallCase(unittest.TestCase, Steps):
    apply = staticmethod(apply_call)

    def told(self, text, step):
        found = outcome(apply_call, admitted_text(text), step)
        return found if type(found) is int else None


class CallSteps(CallCase):
    def test_words(self):
        self.assertEqual(CALL_WORDS, ("call_out", "constant_arg", "functions_out", "globals_out", "inline", "merge", "param_drop", "result_drop", "result_known", "tail_loop"))

    def test_the_examples(self):
        text = "define i8 @f(i8){b0(): return $0} define i8 @main(){b0(): $0=call @f(5) return $0}"
        self.fits(text, ("inline", "main", 0, 0), "define i8 @f(i8){b0(): return $0} define i8 @main() { b0(): jump b1() b1(): jump b2(5) b2(i8 $0): return $0 }")
        self.fits(text, ("result_known", "f", ("v", 0)), "define i8 @f(i8){b0(): return $0} define i8 @main() { b0(): $0 = call @f(5) return 5 }")

    def test_junk(self):
        text = """@t = global i8 [1] define i8 @f(i8){ b0(): $1 = call @f($0) return $1 } define i8 @g(i8){ b0(): return 3 }
            define i8 @h(i8){ b0(): return 3 } define i8 @main(){ b0(): $0 = call @g(7) return 0 }"""
        self.junk(text, ("inline", "main", 0, 0))
        self.junk(text, ("call_out", "main", 0, 0))
        self.junk(text, ("tail_loop", "f"))
        self.junk(text, ("param_drop", "g", 0))
        self.junk(text, ("constant_arg", "g", 0, ("n", 7)))
        self.junk(text, ("result_drop", "g"))
        self.junk(text, ("result_known", "g", ("n", 3)))
        self.junk(text, ("functions_out", ("f",)))
        self.junk(text, ("globals_out", ("t",)))
        self.junk(text, ("merge", (("g", "h"),)))

    def test_what_is_no_step(self):
        module = admitted_text("define i8 @f(i8){b0(): return $0} define i8 @main(){b0(): $0=call @f(5) return $0}")
        for step in ((), ("inline",), ("inline", "main", 0), ("inline", "main", 0, 0, 0), ["inline", "main", 0, 0], ("drop", "main"), ("take_out", "main", 0), None, 0, "inline",
                     (["inline"], "main", 0, 0), ("merge",), ("tail_loop", "f", 0), (None, "f")):
            self.assertEqual(outcome(apply_call, module, step), 0, step)
        for name in ("nothing", "", None, 0, ["main"], ("main",), b"main", True):
            for step in (("inline", name, 0, 0), ("call_out", name, 0, 0), ("tail_loop", name), ("param_drop", name, 0), ("constant_arg", name, 0, ("n", 5)), ("result_drop", name),
                         ("result_known", name, ("v", 0)), ("functions_out", name), ("globals_out", name), ("merge", name)):
                self.assertEqual(outcome(apply_call, module, step), 1, step)

    def test_against_the_words(self):
        """Drawn steps fit, or not, as told, and the runs behind them are as [46] tells."""
        found = {}
        for rng in sources(350):
            module = calling_module(rng)
            for word in CALL_WORDS:
                for _ in range(2):
                    step = Drawer(rng, module).step(word)
                    if rng.random() < 0.2:
                        step = spoilt(rng, step)
                    new = outcome(apply_call, module, step)
                    self.assertEqual(new, told_call(module, step), step)
                    at = new if type(new) is int else "fits"
                    found[word, at] = found.get((word, at), 0) + 1
                    if at == "fits":
                        self.sound(module, new)
                        self.runs_told(module, step, new)
                        module = new if rng.random() < 0.4 else module
        for word, arity in ARITIES.items():
            for at in list(range(arity)) + ["fits"]:
                self.assertGreater(found.get((word, at), 0), 3, (word, at))

    def runs_told(self, module, step, new):
        for inputs in INPUTS[:3]:
            for fuel in (0, 1, 2, 3, 5, 8, 13, 30, 60):
                one, other = run_module(module, inputs, fuel), run_module(new, inputs, fuel)
                if step[0] == "tail_loop":
                    self.assertTrue(is_beginning(one, run_module(new, inputs, 2 * fuel + 1)))
                    self.assertTrue(is_beginning(other, run_module(module, inputs, 2 * fuel)))
                elif step[0] == "call_out":
                    block = [block for block in named(module, step[1])[3] if block[0] == step[2]][0]
                    fuels = dict(quiet_fuel(module))[block[2][step[3]][2][0]]
                    self.assertTrue(is_beginning(one, other))
                    self.assertTrue(is_beginning(other, run_module(module, inputs, fuel * (fuels + 2))))
                else:
                    self.assertEqual(one, other)


class Inline(CallCase):
    def test_several_blocks(self):
        text = """define i8 @f(i8, ptr){ b5(): $9 = load i8 $1 branch 1, b2($9, $1), b8() b2(i8 $3, ptr $4): store i8 $3, $4 return $0 b8(): stop b1(): $7 = alloca i8, 1 jump b1() }
            define i8 @main(){ b3(): $2 = alloca i8, 1 $4 = input i8 $8 = call @f($4, $2) $9 = add i8 $8, $4 branch 0, b6($8), b7() b6(i8 $10): return $8 b7(): return $9 }"""
        self.fits(text, ("inline", "main", 3, 2), text[:text.index("define i8 @main")] + """define i8 @main(){ b3(): $2 = alloca i8, 1 $4 = input i8 jump b8() b6(i8 $10): return $8 b7(): return $9
            b8(): $11 = load i8 $2 branch 1, b9($11, $2), b10() b9(i8 $12, ptr $13): store i8 $12, $13 jump b12($4) b10(): stop b11(): $14 = alloca i8, 1 jump b11()
            b12(i8 $8): $9 = add i8 $8, $4 branch 0, b6($8), b7() }""")

    def test_no_result_and_no_return(self):
        text = """define void @f(i1){ b0(): branch $0, b1(), b2() b1(): print i8 1 return b2(): return } define void @g(){ b0(): stop }
            define i8 @main(){ b0(): $0 = input i1 call @f($0) call @g() return 4 }"""
        self.fits(text, ("inline", "main", 0, 1), text[:text.index("define i8 @main")] + """define i8 @main(){ b0(): $0 = input i1 jump b1()
            b1(): branch $0, b2(), b3() b2(): print i8 1 jump b4() b3(): jump b4() b4(): call @g() return 4 }""")
        self.fits(text, ("inline", "main", 0, 2), text[:text.index("define i8 @main")] + "define i8 @main(){ b0(): $0 = input i1 call @f($0) jump b1() b1(): stop b2(): return 4 }")
        for index, at in ((0, 3), (3, 3), (True, 3), (None, 3)):
            self.refused(text, ("inline", "main", 0, index), at)
        self.refused(text, ("inline", "main", 1, 1), 2)

    def test_a_function_in_itself(self):
        text = """define i8 @f(i8){ b0(): $1 = sub i8 $0, 1 $2 = cmp eq i8 $0, 0 branch $2, b1(), b2() b1(): return 7 b2(): $3 = call @f($1) $4 = add i8 $3, 1 return $4 }
            define i8 @main(){ b0(): $0 = call @f(3) return $0 }"""
        self.fits(text, ("inline", "f", 2, 0), """define i8 @f(i8){ b0(): $1 = sub i8 $0, 1 $2 = cmp eq i8 $0, 0 branch $2, b1(), b2() b1(): return 7 b2(): jump b3()
            b3(): $5 = sub i8 $1, 1 $6 = cmp eq i8 $1, 0 branch $6, b4(), b5() b4(): jump b6(7) b5(): $7 = call @f($5) $8 = add i8 $7, 1 jump b6($8)
            b6(i8 $3): $4 = add i8 $3, 1 return $4 } define i8 @main(){ b0(): $0 = call @f(3) return $0 }""")

    def test_no_values_at_all(self):
        self.fits("define void @f(){ b0(): return } define i8 @main(){ b9(): call @f() return 3 }", ("inline", "main", 9, 0),
                  "define void @f(){ b0(): return } define i8 @main(){ b9(): jump b10() b10(): jump b11() b11(): return 3 }")

    def test_values_into_a_function_without_any(self):
        self.fits("define void @f(){ b0(): $3 = input i8 jump b1($3) b1(i8 $7): print i8 $7 return } define i8 @main(){ b0(): call @f() return 3 }", ("inline", "main", 0, 0),
                  """define void @f(){ b0(): $3 = input i8 jump b1($3) b1(i8 $7): print i8 $7 return } define i8 @main(){ b0(): jump b1() b1(): $0 = input i8 jump b2($0)
                  b2(i8 $1): print i8 $1 jump b3() b3(): return 3 }""")

    def test_unreached_calls(self):
        self.fits("define i8 @f(i8){ b0(): return $0 } define i8 @main(){ b0(): return 3 b1(): $0 = call @f($0) jump b1() }", ("inline", "main", 1, 0),
                  "define i8 @f(i8){ b0(): return $0 } define i8 @main(){ b0(): return 3 b1(): jump b2() b2(): jump b3($0) b3(i8 $0): jump b1() }")

    def test_limits(self):
        """200 blocks and 2,000 ops are let, one beyond is not."""
        def text(blocks, ops, inner_blocks, inner_ops):
            rows = " ".join(f"b{at}(): return 0" for at in range(1, blocks))
            inner = " ".join(f"b{at}(): return 0" for at in range(1, inner_blocks))
            return ("define i8 @f(){ b0(): " + "print i8 1 " * inner_ops + "return 0 " + inner + "} define i8 @main(){ b0(): " + "print i8 2 " * (ops - 1)
                    + "$0 = call @f() return 0 " + rows + "}")

        for sizes, at in (((100, 3, 99, 3), None), ((100, 3, 100, 3), 3), ((198, 3, 1, 0), None), ((199, 3, 1, 0), 3), ((1, 3, 198, 3), None), ((1, 3, 199, 3), 3),
                          ((2, 1000, 2, 1001), None), ((2, 1000, 2, 1002), 3), ((2, 1001, 2, 1001), 3), ((1, 1, 1, 2000), None), ((1, 2000, 1, 1), None), ((1, 2000, 1, 2), 3)):
            self.assertEqual(self.told(text(*sizes), ("inline", "main", 0, sizes[1] - 1)), at, sizes)


class TailLoop(CallCase):
    def test_with_a_result(self):
        text = """define i8 @f(i8, i1){ b2(): $2 = add i8 $0, 1 branch $1, b4(), b5($2) b4(): print i8 $0 $3 = call @f($2, 0) return $3 b5(i8 $6): $7 = call @f($6, $1) return $7
            b9(): $8 = call @f($0, 1) return $0 b10(): $9 = call @f($8, 1) return $9 }""" + MAIN
        self.fits(text, ("tail_loop", "f"), """define i8 @f(i8, i1){ b11(): jump b2($0, $1) b2(i8 $10, i1 $11): $2 = add i8 $10, 1 branch $11, b4(), b5($2) b4(): print i8 $10 jump b2($2, 0)
            b5(i8 $6): jump b2($6, $11) b9(): $8 = call @f($10, 1) return $10 b10(): jump b2($8, 1) }""" + MAIN)

    def test_without_a_result(self):
        text = "define void @f(ptr){ b0(): $1 = load i8 $0 branch 1, b1(), b2() b1(): call @f($0) return b2(): call @f($0) jump b3() b3(): return }" + MAIN
        self.fits(text, ("tail_loop", "f"), """define void @f(ptr){ b4(): jump b0($0) b0(ptr $2): $1 = load i8 $2 branch 1, b1(), b2() b1(): jump b0($2)
            b2(): call @f($2) jump b3() b3(): return }""" + MAIN)

    def test_main(self):
        self.fits("define i8 @main(){ b0(): $0 = input i8 $1 = call @main() return $1 }", ("tail_loop", "main"), "define i8 @main(){ b1(): jump b0() b0(): $0 = input i8 jump b0() }")

    def test_no_tail_calls(self):
        for body in ("$1 = call @f($0) $2 = add i8 1, 1 return $1", "$1 = call @f($0) return 3", "$1 = call @f($0) return $0", "$1 = call @g($0) return $1", "$1 = call @f($0) stop",
                     "$1 = call @f($0) return $1 b1(): print i8 $1 return 3", "$1 = call @f($0) jump b1($1) b1(i8 $2): return $2", "return 0"):
            self.refused("define i8 @f(i8){ b0(): " + body + "} define i8 @g(i8){ b0(): return 1 }" + MAIN, ("tail_loop", "f"), 1)
        self.refused("define i8 @f(i8){ b0(): return 1 b1(): $1 = call @f($1) return $1 }" + MAIN, ("tail_loop", "f"), 1)
        self.refused("define i8 @f(i8){ b0(): $1 = call @f($0) return $1 }" + MAIN, ("tail_loop", "main"), 1)


class Signatures(CallCase):
    def test_param_drop(self):
        text = """define i8 @f(i8, i16, i8){ b0(): $5 = call @f($0, $1, 3) $6 = add i8 $5, $2 branch 1, b1(), b1() b1(): $7 = call @f(4, $1, $6) return $7 }
            define i8 @main(){ b0(): $0 = call @f(1, 2, 3) $1 = call @f($0, 5, 6) return $1 }"""
        self.fits(text, ("param_drop", "f", 1), """define i8 @f(i8, i8){ b0(): $5 = call @f($0, 3) $6 = add i8 $5, $1 branch 1, b1(), b1() b1(): $7 = call @f(4, $6) return $7 }
            define i8 @main(){ b0(): $0 = call @f(1, 3) $1 = call @f($0, 6) return $1 }""")
        self.fits(text, ("param_drop", "f", 0), """define i8 @f(i16, i8){ b0(): $5 = call @f($0, 3) $6 = add i8 $5, $1 branch 1, b1(), b1() b1(): $7 = call @f($0, $6) return $7 }
            define i8 @main(){ b0(): $0 = call @f(2, 3) $1 = call @f(5, 6) return $1 }""")
        for at in (2, 3, True, None, -1, "0", 0.0):
            self.refused(text, ("param_drop", "f", at), 2)
        self.refused(text, ("param_drop", "main", 0), 2)
        for old, new in (("return $7", "return $0"), ("branch 1, b1(), b1() b1()", "jump b1($0) b1(i8 $8)"), ("$0, $1, 3", "$0, $1, $0"), ("add i8 $5, $2", "add i8 $0, $2")):
            self.refused(text.replace(old, new), ("param_drop", "f", 0), 2)

    def test_constant_arg(self):
        text = """@t = global i8 [0] @u = global i8 [0] define i8 @f(i8, ptr){ b0(): $2 = load i8 $1 $3 = call @f($0, $1) $4 = call @f(7, @t) return $0 }
            define i8 @g(i8, ptr){ b0(): $2 = load i8 $1 return $0 } define i8 @main(){ b0(): $0 = call @f(7, @t) return $0 }"""
        self.fits(text, ("constant_arg", "f", 0, ("n", 7)), text.replace("@f($0, $1)", "@f(7, $1)").replace("@t) return $0 }\n            define i8 @g", "@t) return 7 }\n            define i8 @g"))
        self.fits(text, ("constant_arg", "f", 1, ("g", "t")), text.replace("$2 = load i8 $1 $3 = call @f($0, $1)", "$2 = load i8 @t $3 = call @f($0, @t)"))
        self.fits(text, ("constant_arg", "g", 0, ("n", 255)), text.replace("$2 = load i8 $1 return $0", "$2 = load i8 $1 return 255"))
        self.fits(text, ("constant_arg", "g", 1, ("g", "u")), text.replace("$2 = load i8 $1 return $0", "$2 = load i8 @u return $0"))
        for name, at, operand, told in (("f", 0, ("n", 8), 3), ("f", 0, ("n", 256), 3), ("f", 0, ("g", "t"), 3), ("f", 1, ("n", 7), 3), ("f", 1, ("g", "u"), 3), ("f", 1, ("g", "v"), 3),
                                        ("f", 0, ("v", 0), 3), ("f", 0, ("n", True), 3), ("f", 0, 7, 3), ("f", 0, ["n", 7], 3), ("f", 0, None, 3), ("f", 2, ("n", 7), 2), ("f", True, ("g", "t"), 2),
                                        ("main", 0, ("n", 7), 2), ("g", 0, ("n", 256), 3), ("g", 1, ("g", "f"), 3), ("g", 1, ("v", 1), 3)):
            self.refused(text, ("constant_arg", name, at, operand), told)
        self.refused(text.replace("@f($0, $1)", "@f($2, $1)"), ("constant_arg", "f", 0, ("n", 7)), 3)
        self.refused(text.replace("b0(): $0 = call @f(7, @t) return $0", "b0(): return 0 b1(): $0 = call @f(8, @t) return $0"), ("constant_arg", "f", 0, ("n", 7)), 3)
        wide = "define i8 @f(i64){ b0(): return 0 } define i8 @main(){ b0(): $0 = call @f(18446744073709551615) return $0 }"
        self.fits(wide, ("constant_arg", "f", 0, ("n", 2 ** 64 - 1)), wide)

    def test_result_drop(self):
        text = """define i8 @f(i8){ b0(): $1 = call @f(3) branch 1, b1(), b2() b1(): return $1 b2(): $2 = call @g() return $2 } define i8 @g(){ b0(): return 1 }
            define i8 @main(){ b0(): $0 = call @f(4) return 0 }"""
        self.fits(text, ("result_drop", "f"), """define void @f(i8){ b0(): call @f(3) branch 1, b1(), b2() b1(): return b2(): $2 = call @g() return } define i8 @g(){ b0(): return 1 }
            define i8 @main(){ b0(): call @f(4) return 0 }""")
        self.refused(text, ("result_drop", "g"), 1)
        self.refused(text, ("result_drop", "main"), 1)
        self.refused("define void @f(){ b0(): return }" + MAIN, ("result_drop", "f"), 1)
        for old, new in (("@f(4) return 0", "@f(4) return $0"), ("@f(4) return 0", "@f(4) print i8 $0 return 0"), ("call @f(3)", "call @f(3) print i8 $1"),
                         ("$2 = call @g()", "$2 = call @f($1)"), ("return 1 }", "$0 = call @f(3) return $0 }")):
            self.refused(text.replace(old, new, 1), ("result_drop", "f"), 1)

    def test_result_known(self):
        text = """define i8 @f(i8, i16, i8){ b0(): $3 = call @f($0, 1, $2) branch 1, b1(), b2() b1(): return $0 b2(): return $3 }
            define i8 @main(){ b0(): $0 = input i8 $1 = call @f($0, 2, 9) $2 = call @f($1, 3, $1) $3 = add i8 $1, $2 print i8 $3 return $2 }"""
        self.fits(text, ("result_known", "f", ("v", 0)), """define i8 @f(i8, i16, i8){ b0(): $3 = call @f($0, 1, $2) branch 1, b1(), b2() b1(): return $0 b2(): return $0 }
            define i8 @main(){ b0(): $0 = input i8 $1 = call @f($0, 2, 9) $2 = call @f($0, 3, $0) $3 = add i8 $0, $1 print i8 $3 return $1 }""")
        for operand in (("v", 2), ("v", 1), ("v", 3), ("v", 4), ("n", 0), ("g", "f"), ("n", 256), ("v", True), None, 0, ["v", 0], ("v",), ()):
            self.refused(text, ("result_known", "f", operand), 2)
        self.refused(text.replace("call @f($0, 1, $2)", "call @f($2, 1, $0)"), ("result_known", "f", ("v", 0)), 2)
        number = "define i8 @f(){ b0(): $0 = call @f() $1 = call @g() branch 1, b1(), b2() b1(): return 5 b2(): return $0 } define i8 @g(){ b0(): return 5 } define i8 @main(){ b0(): $0 = call @f() return $0 }"
        self.fits(number, ("result_known", "f", ("n", 5)), number.replace("b2(): return $0", "b2(): return 5").replace("call @f() return $0", "call @f() return 5"))
        self.refused(number, ("result_known", "f", ("n", 4)), 2)
        self.refused(number.replace("b2(): return $0", "b2(): return $1"), ("result_known", "f", ("n", 5)), 2)
        self.refused("define void @f(i8){ b0(): return }" + MAIN, ("result_known", "f", ("v", 0)), 1)
        self.fits("define i8 @f(i16){ b0(): stop } define i8 @main(){ b0(): $0 = call @f(3) return $0 }", ("result_known", "f", ("n", 77)),
                  "define i8 @f(i16){ b0(): stop } define i8 @main(){ b0(): $0 = call @f(3) return 77 }")
        self.refused("define i8 @f(i16){ b0(): stop }" + MAIN, ("result_known", "f", ("v", 0)), 2)
        self.fits("define i8 @main(){ b0(): return 3 b1(): $0 = call @main() print i8 $0 stop }", ("result_known", "main", ("n", 3)),
                  "define i8 @main(){ b0(): return 3 b1(): $0 = call @main() print i8 3 stop }")

    def test_numbers_like_those_of_calls(self):
        """A returned number is no call's value, though it may be its number."""
        text = "define i8 @f(i8){ b0(): $3 = call @f($0) branch 1, b1(), b2() b1(): return $0 b2(): return 3 }" + MAIN
        self.refused(text, ("result_known", "f", ("v", 0)), 2)
        self.refused(text, ("result_known", "f", ("n", 3)), 2)

    def test_functions_that_call_one_another_round(self):
        text = """define i8 @f(i8, i8){ b0(): branch 1, b1(), b2() b1(): return $0 b2(): $2 = call @g($0, $1) return $2 } define i8 @g(i8, i8){ b0(): $2 = call @f($0, $1) return $2 }
            define i8 @main(){ b0(): $0 = call @f(1, 2) return $0 }"""
        self.refused(text, ("param_drop", "f", 1), 2)
        self.refused(text, ("result_known", "f", ("v", 0)), 2)
        self.refused(text, ("result_known", "g", ("v", 0)), 2)
        self.refused(text, ("constant_arg", "f", 1, ("n", 2)), 3)
        self.refused(text, ("result_drop", "f"), 1)


class Whole(CallCase):
    text = """@a = global i8 [0] @b = global i8 [0] @c = global i8 [0] @d = global i8 [0] define i8 @f(){ b0(): $0 = call @g() $1 = load i8 @a return 0 }
        define i8 @g(){ b0(): $0 = call @f() return 0 b1(): jump b2(@b) b2(ptr $1): stop } define i8 @h(){ b0(): $0 = call @f() return 0 }
        define i8 @k(){ b0(): store i8 3, @c return 0 } define i8 @main(){ b0(): return 0 b1(): $0 = call @k() stop }"""

    def test_functions_out(self):
        def less(*names):
            module = read_module(self.text)
            return module_text((module[0], tuple(function for function in module[1] if function[0] not in names)))

        for names in (("h",), ("f", "g", "h")):
            self.fits(self.text, ("functions_out", names), less(*names))
        for names in (("f",), ("g",), ("f", "g"), ("f", "h"), ("k",), ("main",), ("h", "main"), ("h", "h"), ("g", "f", "h"), ("h", "z"), (), ["h"], "h", None, ("h", None), (["h"],), ("a",)):
            self.refused(self.text, ("functions_out", names), 1)

    def test_globals_out(self):
        self.fits(self.text, ("globals_out", ("d",)), self.text.replace("@d = global i8 [0]", ""))
        for names in (("a",), ("b",), ("c",), ("c", "d"), ("d", "d"), ("d", "e"), (), ["d"], "d", None, ("d", None), (["d"],), ("f",), ("h",)):
            self.refused(self.text, ("globals_out", names), 1)
        free = "@a = global i8 [0] @b = global i8 [1] @c = global i8 [2] define i8 @main(){ b0(): $0 = load i8 @b return $0 }"
        self.fits(free, ("globals_out", ("a", "c")), "@b = global i8 [1] define i8 @main(){ b0(): $0 = load i8 @b return $0 }")
        self.refused(free, ("globals_out", ("c", "a")), 1)

    def test_call_out(self):
        text = """define i8 @f(i8){ b0(): $1 = add i8 $0, 1 return $1 } define i8 @g(i8){ b0(): print i8 $0 return $0 }
            define i8 @main(){ b0(): $0 = call @f(1) $1 = call @f($0) $2 = call @g(1) call @v() return 0 b1(): $3 = call @f(9) stop } define void @v(){ b0(): return }"""
        self.fits(text, ("call_out", "main", 0, 1), text.replace("$1 = call @f($0)", ""))
        self.fits(text, ("call_out", "main", 0, 3), text.replace("call @v()", "", 1))
        self.fits(text, ("call_out", "main", 1, 0), text.replace("$3 = call @f(9)", ""))
        for label, index, at in ((0, 0, 3), (0, 2, 3), (0, 4, 3), (0, True, 3), (0, None, 3), (2, 0, 2), (True, 0, 2), (1, 1, 3)):
            self.refused(text, ("call_out", "main", label, index), at)
        self.refused(text, ("call_out", "f", 0, 0), 3)

    def test_merge(self):
        text = """define i8 @f(i8){ b0(): $1 = call @f($0) return $1 } define i8 @g(i8){ b7(): $9 = call @f($0) return $9 } define i8 @h(i8){ b0(): $1 = call @h($0) return $1 }
            define i8 @main(){ b0(): $0 = call @f(1) $1 = call @g(2) $2 = call @h(3) return 0 }"""
        self.fits(text, ("merge", (("f", "g"),)), text.replace("@f(1)", "@g(1)").replace("call @f($0)", "call @g($0)"))
        self.fits(text, ("merge", (("g", "f"),)), text.replace("@g(2)", "@f(2)"))
        self.fits(text, ("merge", (("f", "h"), ("g", "h"))), text.replace("@f(1)", "@h(1)").replace("@g(2)", "@h(2)").replace("call @f($0)", "call @h($0)"))
        words = """define i8 @add(i8){ b0(): $1 = add i8 $0, 1 return $1 } define i8 @main(){ b0(): $0 = call @add(3) return $0 }
            define i8 @sub(i8){ b0(): $1 = add i8 $0, 1 return $1 }"""
        self.fits(words, ("merge", (("add", "sub"),)), words.replace("call @add", "call @sub"))
        for pairs in ((("g", "h"),), (("f", "main"),), (("main", "f"),), (("f", "g"), ("g", "f")), (("f", "g"), ("f", "h")), (("f", "f"),), (), [("f", "g")], None, (("f",),), ("fg",)):
            self.refused(text, ("merge", pairs), 1)


if __name__ == "__main__":
    unittest.main()
