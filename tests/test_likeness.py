"""[73]: functions that do the same."""

import unittest
from itertools import product

from anypasses.callees import is_alike
from anypasses.callgoals import doubled_call
from anypasses.callpasses import pass_merge
from anypasses.judge import judged
from callers import calling_module
from making import sources
from passing import Passes, any_module
from stepping import admitted_text
from test_small_calls import calls_of

MAIN = "define i8 @main(){ b0(): %s return 0 }"


def doubled_by_trying(module):
    """Whether any pairs that are alike have one both functions of which are called; all pairs that there can be are tried."""
    names = [function[0] for function in module[1]]
    called = {op[2][0] for function in module[1] for _, _, op in calls_of(function)}
    for row in product(*[[None] + ([other for other in names if other != name] if name != "main" else []) for name in names]):
        pairs = tuple((name, other) for name, other in zip(names, row) if other is not None)
        if is_alike(module, pairs) and any(one in called and other in called for one, other in pairs):
            return True
    return False


class Likeness(Passes, unittest.TestCase):
    def check(self, module):
        step, paper = doubled_call(module), pass_merge(module)
        few = len(module[1]) <= 5
        self.assertEqual(paper, () if step is None else (step,))
        if few:
            self.assertEqual(step is not None, doubled_by_trying(module))
        if step is None:
            return None
        self.assertEqual(step[0], "merge")
        called = {op[2][0] for function in module[1] for _, _, op in calls_of(function)}
        self.assertTrue(any(one in called and other in called for one, other in step[1]))
        _, later = self.made(module, paper, ("merge",))
        self.assertIsNone(doubled_call(later))
        self.assertFalse(few and doubled_by_trying(later))
        self.equal_runs(module, later)
        return step[1]

    def pairs(self, text, calls):
        return self.check(admitted_text(text + MAIN % calls))

    def test_two_alike(self):
        both = "define i8 @a(i8){ b0(): $1 = add i8 $0, 1 return $1 } define i8 @b(i8){ b7(): $9 = add i8 $0, 1 return $9 } "
        self.assertIn(self.pairs(both, "$0 = call @a(1) $1 = call @b(1)"), ((("a", "b"),), (("b", "a"),)))
        self.assertIsNone(self.pairs(both, "$0 = call @a(1) $1 = call @a(1)"))
        self.assertIsNone(self.pairs(both, ""))

    def test_nearly_alike(self):
        one = "define i8 @a(i8){ b0(): $1 = add i8 $0, 1 return $1 } "
        for other in ("define i8 @b(i8){ b0(): $1 = add i8 $0, 2 return $1 } ", "define i8 @b(i8){ b0(): $1 = add i8 1, $0 return $1 } ", "define i8 @b(i8){ b0(): $1 = add i8 $0, 1 return $0 } ",
                      "define i8 @b(i8){ b0(): $1 = add i8 $0, 1 jump b1() b1(): return $1 } ", "define i8 @b(i8){ b0(): $1 = add i8 $0, 1 $2 = add i8 $0, 1 return $1 } "):
            self.assertIsNone(self.pairs(one + other, "$0 = call @a(1) $1 = call @b(1)"), other)
        self.assertIsNone(self.pairs("define void @a(){ b0(): return } define void @b(){ b0(): stop } ", "call @a() call @b()"))

    def test_functions_in_a_ring(self):
        """No step of either ring tells them apart: a calls b, b calls a; c calls itself."""
        ring = "define void @a(){ b0(): print i8 1 call @b() return } define void @b(){ b0(): print i8 1 call @a() return } define void @c(){ b0(): print i8 1 call @c() return } "
        self.assertEqual(len(self.pairs(ring, "call @a() call @c()")), 2)
        self.assertEqual(len(self.pairs(ring, "")), 2)
        two = "define void @a(){ b0(): call @b() return } define void @b(){ b0(): print i8 1 call @a() return } define void @c(){ b0(): call @d() return } define void @d(){ b0(): print i8 1 call @c() return } "
        self.assertEqual(len(self.pairs(two, "call @a() call @c()")), 2)
        self.assertIsNone(self.pairs(two.replace("print i8 1 call @c()", "print i8 2 call @c()"), "call @a() call @c()"))

    def test_whom_they_call(self):
        """Functions that call alike ones are alike; others are not."""
        text = """define void @a(){ b0(): call @d() return } define void @b(){ b0(): call @e() return } define void @c(){ b0(): call @f() return }
            define void @d(){ b0(): print i8 1 return } define void @e(){ b0(): print i8 1 return } define void @f(){ b0(): print i8 2 return } """
        pairs = self.pairs(text, "call @a() call @b() call @c()")
        self.assertEqual(sorted(map(set, pairs), key=sorted), [{"a", "b"}, {"d", "e"}])
        text = """define void @a(){ b0(): call @d() call @f() return } define void @b(){ b0(): call @f() call @d() return } define void @d(){ b0(): print i8 1 return } define void @f(){ b0(): print i8 2 return } """
        self.assertIsNone(self.pairs(text, "call @a() call @b()"))

    def test_main(self):
        """`main` is no first one of a pair, but others may be written as it; where nobody calls it, nothing is doubled."""
        copy = "define i8 @a(){ b0(): $0 = input i8 branch 0, b1(), b2() b1(): $1 = call @a() return $1 b2(): return $0 } "
        main = "define i8 @main(){ b0(): $0 = input i8 branch 0, b1(), b2() b1(): $1 = call @%s() return $1 b2(): return $0 } "
        self.assertIsNone(self.check(admitted_text(copy + main % "a")))
        self.assertEqual(self.check(admitted_text(copy + main % "main")), (("a", "main"),))
        third = copy.replace("@a", "@b")
        self.assertEqual(len(self.check(admitted_text(copy + third + main % "a"))), 1)
        self.assertEqual(self.check(admitted_text(copy + third + main % "main")), (("a", "main"), ("b", "main")))

    def test_more_than_two(self):
        text = "".join(f"define void @f{at}(){{ b{at}(): print i8 {at % 2} return }} " for at in range(7))
        pairs = self.pairs(text, " ".join(f"call @f{at}()" for at in range(6)))
        self.assertEqual(sorted(map(sorted, pairs)), [["f0", "f2"], ["f0", "f4"], ["f1", "f3"], ["f1", "f5"]])
        self.assertEqual(len({other for _, other in pairs}), 2)

    def test_called_in_blocks_that_are_not_reached(self):
        both = "define void @a(){ b0(): return } define void @b(){ b0(): return } define void @c(){ b0(): return b1(): call @b() stop } "
        self.assertEqual(len(self.pairs(both, "call @a()")), 1)

    def test_drawn(self):
        many = 0
        for rng in sources(300):
            module = calling_module(rng) if rng.random() < 0.9 else any_module(rng)
            many += self.check(module) is not None
        self.assertGreater(many, 15)

    def test_drawn_rings(self):
        """Small functions that call one another anyhow."""
        many = 0
        for rng in sources(200, seed=1):
            names = ["a", "b", "c", "d"][:rng.randint(2, 4)]
            rows = []
            for name in names:
                ops = " ".join(rng.choice((f"call @{rng.choice(names)}()", f"call @{rng.choice(names)}()", "print i8 1")) for _ in range(rng.randint(1, 2)))
                rows.append(f"define void @{name}(){{ b0(): $0 = input i1 branch $0, b1(), b2() b1(): {ops} jump b2() b2(): return }} ")
            module = admitted_text("".join(rows) + MAIN % " ".join(f"call @{rng.choice(names)}()" for _ in range(2)))
            many += self.check(module) is not None
        self.assertGreater(many, 50)

    def test_large(self):
        """Forty functions, of which two rows call one another to their ends."""
        rows = []
        for row in "ab":
            rows += [f"define void @{row}{at:02}(){{ b0(): {'print i8 7 ' * 40} call @{row}{at + 1:02}() return }} " for at in range(18)]
            rows.append(f"define void @{row}18(){{ b0(): return }} ")
        module = admitted_text("".join(rows) + MAIN % "call @a00() call @b00()")
        self.assertEqual(len(doubled_call(module)[1]), 19)
        self.assertIsNone(doubled_call(judged(module, pass_merge(module))))


if __name__ == "__main__":
    unittest.main()
