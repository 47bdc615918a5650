"""[45]: quiet functions, and functions that are alike."""

import unittest

from anypasses.callees import is_alike, quiet_fuel
from anypasses.machine import run_module
from anypasses.reading import read_module
from call_oracle import alike_by_words, calls, named, quiet_by_words
from callers import calling_module, relabelled
from drawing import Drawer
from making import sources
from stepping import admitted_text

MAIN = " define i8 @main(){ b0(): return 0 }"


class Quiet(unittest.TestCase):
    def fuels(self, text):
        return dict(quiet_fuel(admitted_text(text)))

    def test_ops_and_ends(self):
        for body, fuel in (("b0(): return 0", 1), ("b0(): $2 = add i8 $0, 1 $3 = alloca i8, 1 $4 = at i8 $3, $0 $5 = udiv i8 $0, 3 return $5", 5), ("b0(): $2 = udiv i8 3, $0 return $2", None),
                           ("b0(): $2 = udiv i8 $0, 0 return $2", None), ("b0(): print i8 $0 return 0", None), ("b0(): $2 = input i8 return 0", None), ("b0(): $2 = load i8 $1 return 0", None),
                           ("b0(): store i8 1, $1 return 0", None), ("b0(): stop", None), ("b0(): return 0 b1(): stop", None), ("b0(): return 0 b1(): print i8 3 return 0", None),
                           ("b0(): return 0 b1(): jump b1()", None), ("b0(): jump b1() b1(): jump b2() b2(): branch 0, b1(), b3() b3(): return 0", None),
                           ("b0(): return 0 b1(): jump b2() b2(): jump b1()", None),
                           ("b0(): branch 1, b1(), b2() b1(): $2 = add i8 1, 2 $3 = add i8 1, 2 jump b2() b2(): $4 = add i8 1, 2 return $4", 6),
                           ("b0(): branch 1, b1(), b1() b1(): return 0", 2), ("b0(): return 0 b1(): $2 = add i8 1, 2 jump b2() b2(): return 3", 1)):
            told = self.fuels("define i8 @f(i8, ptr){ " + body + "}" + MAIN)
            self.assertEqual(told.get("f"), fuel, body)
            self.assertEqual(told["main"], 1)

    def test_calls(self):
        text = """define i8 @a(){ b0(): $0 = call @b() $1 = call @b() return $0 } define i8 @b(){ b0(): $0 = call @c() return 3 } define i8 @c(){ b0(): $0 = add i8 1, 2 return $0 }
            define i8 @main(){ b0(): $0 = call @a() print i8 $0 return 0 }"""
        self.assertEqual(quiet_fuel(admitted_text(text)), (("a", 11), ("b", 4), ("c", 2)))
        self.assertEqual(quiet_fuel(admitted_text(text.replace("return 3", "print i8 1 return 3"))), (("c", 2),))

    def test_rings_of_calls(self):
        text = """define i8 @a(){ b0(): $0 = call @b() return 0 } define i8 @b(){ b0(): branch 1, b1(), b2() b1(): return 2 b2(): $0 = call @a() return 0 }
            define i8 @c(){ b0(): $0 = call @c() return 0 } define i8 @d(){ b0(): return 0 b1(): $0 = call @d() return 0 }""" + MAIN
        self.assertEqual(quiet_fuel(admitted_text(text)), (("main", 1),))

    def test_many_calls(self):
        """Twenty functions, each of which calls the one before twice."""
        text = "define i8 @f00(){ b0(): return 0 }"
        for at in range(1, 20):
            text += f" define i8 @f{at:02d}(){{ b0(): $0 = call @f{at - 1:02d}() $1 = call @f{at - 1:02d}() return 0 }}"
        told = self.fuels(text + MAIN)
        self.assertEqual(told["f19"], 2 ** 19 * 4 - 3)

    def test_the_most_of_all_ways(self):
        rows = " ".join(f"b{at}(): $%d = add i8 1, 1 branch 1, b{at + 1}(), b{at + 2}()" % at for at in range(0, 60))
        told = self.fuels("define i8 @f(){ " + rows + " b60(): jump b61() b61(): return 0 }" + MAIN)
        self.assertEqual(told["f"], 122)

    def test_against_the_words(self):
        seen = 0
        for rng in sources(250):
            module = calling_module(rng)
            told = quiet_fuel(module)
            self.assertEqual(told, quiet_by_words(module))
            seen += len(told)
        self.assertGreater(seen, 150)

    def test_runs_take_no_more(self):
        """A call of a quiet function ends, puts nothing out, and takes at most its fuel."""
        seen = 0
        for rng in sources(200, seed=1):
            module = calling_module(rng)
            for name, fuel in quiet_fuel(module):
                function = named(module, name)
                args = ", ".join("@tab" if kind == "ptr" else str(rng.choice((0, 1))) for kind in function[1])
                value = "" if function[2] is None else "$0 = "
                main = read_module("define i8 @main(){ b0(): " + value + f"call @{name}({args}) return 9 }}")[1]
                whole = (module[0], tuple(sorted([other for other in module[1] if other[0] != "main"] + list(main))))
                if name != "main" and not any(op[2] == ("main",) for other in module[1] for op in calls(other)):
                    self.assertEqual(run_module(whole, (), fuel + 2), ((), ("value", 9)))
                    seen += 1
        self.assertGreater(seen, 50)


class Alike(unittest.TestCase):
    text = """define i8 @a(i8){ b0(): $1 = add i8 $0, 1 branch 1, b1(), b2($1) b1(): return $1 b2(i8 $2): return $2 }
        define i8 @b(i8){ b7(): $9 = add i8 $0, 1 branch 1, b3(), b8($9) b3(): return $9 b8(i8 $4): return $4 }
        define i8 @c(i8){ b0(): $1 = add i8 $0, 1 branch 1, b2(), b1($1) b1(i8 $2): return $2 b2(): return $1 }
        define i8 @d(i8){ b0(): $1 = add i8 $0, 2 branch 1, b1(), b2($1) b1(): return $1 b2(i8 $2): return $2 }
        define i8 @e(i8){ b0(): $1 = call @f($0) return $1 } define i8 @f(i8){ b0(): $1 = call @e($0) return $1 } define i8 @g(i8){ b0(): $1 = call @g($0) return $1 }
        define i8 @h(i8){ b0(): $1 = call @a($0) return $1 } define i8 @i(i8){ b0(): $1 = call @b($0) return $1 } define i8 @j(i8){ b0(): $1 = call @h($0) return $1 }
        define i8 @main(){ b0(): return 0 } define i8 @n(){ b0(): return 0 } define i16 @o(){ b0(): return 0 } define i8 @p(i16){ b0(): $1 = call @p($0) return $1 }"""

    def test_by_hand(self):
        module = admitted_text(self.text)
        for value, told in (((("a", "b"),), True), ((("b", "a"),), True), ((("a", "c"),), False), ((("a", "d"),), False), ((("a", "h"),), False),
                            ((("e", "f"),), True), ((("f", "e"),), True), ((("e", "g"),), False), ((("f", "g"),), False), ((("e", "g"), ("f", "g")), True), ((("g", "e"),), False),
                            ((("g", "f"),), False), ((("e", "f"), ("g", "f")), True), ((("f", "e"), ("g", "e")), True), ((("h", "i"),), False), ((("a", "b"), ("h", "i")), True),
                            ((("a", "b"), ("i", "h")), True), ((("h", "j"),), False), ((("n", "main"),), True), ((("main", "n"),), False), ((("o", "main"),), False),
                            ((("g", "p"),), False)):
            self.assertIs(is_alike(module, value), told, value)
            self.assertIs(alike_by_words(module, value), told, value)

    def test_forms(self):
        module = admitted_text(self.text)
        for value in ((), None, 0, "ab", [("a", "b")], (["a", "b"],), (("a",),), (("a", "b", "b"),), (("a", "a"),), (("a", "z"),), (("z", "a"),), (("a", "b"), ("a", "b")),
                      (("a", "b"), ("b", "a")), (("e", "f"), ("a", "b")), (("a", "b"), ("a", "h")), ((0, "b"),), (("a", None),), (("a", ["b"]),), ((("a",), "b"),), (("e", "g"), ("g", "f")),
                      ("ab",), {("a", "b"): 1}, (None,), ((b"a", b"b"),)):
            self.assertIs(is_alike(module, value), False, value)

    def test_other_numbers(self):
        for rng in sources(60, seed=2):
            module = calling_module(rng)
            other = relabelled(rng, module)
            for step in [Drawer(rng, module).merge() for _ in range(6)]:
                told = alike_by_words(module, step[1])
                self.assertIs(is_alike(module, step[1]), told)
                self.assertIs(is_alike(other, step[1]), told)


if __name__ == "__main__":
    unittest.main()
