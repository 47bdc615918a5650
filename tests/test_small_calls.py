"""[70]: small calls."""

import unittest

from anypasses.callgoals import small_call
from anypasses.callpasses import pass_inline
from anypasses.errors import InvalidStep
from anypasses.judge import apply_step
from anypasses.renumbering import renumbered
from callers import calling_module
from making import sources
from passing import Passes, any_module, function_of
from stepping import admitted_text, flat


def calls_of(function):
    return [(block[0], at, op) for block in function[3] for at, op in enumerate(block[2]) if op[1] == "call"]


def small_by_words(module):
    """All steps for small calls."""
    found = []
    for function in module[1]:
        for label, at, op in calls_of(function):
            callee = function_of(module, op[2][0])
            if not calls_of(callee) and sum(len(block[2]) for block in callee[3]) <= 12:
                step = ("inline", function[0], label, at)
                try:
                    apply_step(module, step)
                    found.append(step)
                except InvalidStep:
                    pass
    return found


class SmallCalls(Passes, unittest.TestCase):
    def check(self, module):
        step, paper = small_call(module), pass_inline(module)
        small = small_by_words(module)
        self.assertTrue(step in small if small else step is None)
        self.assertEqual(step is None, paper == ())
        row, later = self.made(module, paper, ("inline",))
        for now, step in row:
            self.assertIn(step, small_by_words(now))
        self.assertLessEqual(len(paper), sum(len(calls_of(function)) for function in module[1]))
        self.assertIsNone(small_call(later))
        self.assertEqual(small_by_words(later), [])
        self.assertEqual(pass_inline(later), ())
        return paper, later

    def callee(self, count, main="b0(): $0 = call @f(3) return $0"):
        ops = " ".join(f"${at} = add i8 ${at - 1}, 1" for at in range(1, count + 1))
        return admitted_text(f"define i8 @f(i8){{ b0(): {ops} return ${count} }} define i8 @main(){{ {main} }}")

    def test_twelve_ops_and_thirteen(self):
        for count, small in ((0, True), (1, True), (12, True), (13, False)):
            module = self.callee(count)
            self.assertEqual(small_call(module), ("inline", "main", 0, 0) if small else None)
            self.check(module)

    def test_ops_are_counted_in_all_blocks(self):
        text = "define i8 @f(i8){ b0(): %s jump b1() b1(): %s return 0 b2(): %s stop } define i8 @main(){ b0(): $0 = call @f(3) return $0 }"
        for rows, small in (((4, 4, 4), True), ((4, 4, 5), False), ((0, 0, 13), False)):
            module = admitted_text(text % tuple(" ".join("print i8 1" for _ in range(count)) for count in rows))
            self.assertEqual(small_call(module) is not None, small)
            self.check(module)

    def test_no_room(self):
        """Where the function would have more than 200 blocks, or 2,000 ops, a call is not small."""
        for blocks, small in ((197, True), (198, True), (199, False), (200, False)):
            rows = " ".join(f"b{at}(): jump b{at + 1}()" for at in range(1, blocks - 1))
            module = self.callee(2, f"b0(): $0 = call @f(3) jump b1() {rows} b{blocks - 1}(): return $0")
            self.assertEqual(small_call(module) is not None, small, blocks)
            self.check(module)
        for ops, small in ((1988, True), (1989, True), (1990, False)):
            module = self.callee(12, "b0(): $0 = call @f(3) " + "print i8 1 " * (ops - 1) + "return $0")
            self.assertEqual(small_call(module) is not None, small, ops)
            self.check(module)

    def test_a_smaller_one_has_room(self):
        """Though one call has no room any more, another one may."""
        rows = " ".join(f"b{at}(): jump b{at + 1}()" for at in range(1, 197))
        module = admitted_text("define void @f(){ b0(): return } define void @g(){ b0(): jump b1() b1(): jump b2() b2(): return } define i8 @main(){ b0(): call @g() call @f() call @g() jump b1() "
                               + rows + " b197(): return 0 }")
        self.assertEqual([step[0] for step in self.check(module)[0]], ["inline"])

    def test_calls_that_become_small(self):
        module = admitted_text("""define i8 @a(i8){ b0(): $1 = call @b($0) return $1 } define i8 @b(i8){ b0(): $1 = call @c($0) return $1 } define i8 @c(i8){ b0(): $1 = add i8 $0, 1 return $1 }
            define i8 @main(){ b0(): $0 = call @a(7) print i8 $0 return 0 }""")
        paper, later = self.check(module)
        self.assertEqual([step[1] for step in paper], ["b", "a", "main"])
        self.assertFalse([call for function in later[1] for call in calls_of(function)])
        self.same_ends(module, later, paper)

    def test_calls_that_stay(self):
        for text in ("define i8 @f(i8){ b0(): $1 = call @f($0) return $1 } define i8 @main(){ b0(): $0 = call @f(7) return $0 }",
                     "define i8 @f(i8){ b0(): $1 = call @g($0) return $1 } define i8 @g(i8){ b0(): $1 = call @f($0) return $1 } define i8 @main(){ b0(): return 0 }",
                     "define i8 @main(){ b0(): $0 = call @main() return $0 }", "define i8 @main(){ b0(): return 0 }"):
            self.assertEqual(self.check(admitted_text(text))[0], ())

    def test_main_and_unreached_blocks(self):
        """`main` may be called, too; blocks that are not reached have their calls put in as others."""
        module = admitted_text("define i8 @f(){ b0(): $0 = call @main() return $0 b1(): $1 = call @main() jump b1() } define i8 @main(){ b0(): print i8 1 return 7 }")
        paper, later = self.check(module)
        self.assertEqual(len(paper), 2)
        self.assertEqual(flat(renumbered(later)).split("define i8 @main")[0], "define i8 @f() { b0(): jump b2() b1(): jump b4() b2(): print i8 1 jump b3(7) b3(i8 $0): return $0 b4(): print i8 1 jump b5(7) b5(i8 $1): jump b1() } ")

    def test_drawn(self):
        many = 0
        for rng in sources(150):
            module = calling_module(rng) if rng.random() < 0.8 else any_module(rng)
            paper, later = self.check(module)
            many += len(paper)
            self.same_ends(module, later, paper)
        self.assertGreater(many, 50)

    def test_large(self):
        """Very many calls, of which only some have room."""
        ops = " ".join("$%d = call @f(%d)" % (at, at % 9) for at in range(1000))
        module = admitted_text("define i8 @f(i8){ b0(): $1 = add i8 $0, 1 return $1 } define i8 @main(){ b0(): " + ops + " return $999 }")
        paper = pass_inline(module)
        self.assertEqual(len(paper), 99)


if __name__ == "__main__":
    unittest.main()
