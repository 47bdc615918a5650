"""[67]: hoisting."""

import unittest

from anypasses.hoisting import loose_ops, pass_hoist
from anypasses.judge import judged
from anypasses.loops import loops_of
from anypasses.pureness import is_pure
from anypasses.renumbering import renumbered
from anypasses.webs import home_of
from making import sources
from passing import MAIN, Passes, any_module
from stepping import admitted_text, flat

HEAD = "@t = global i8 [1, 2] define i8 @f(i8, i8, i1){ "


def loose_by_words(module):
    found = set()
    for function in module[1]:
        for _, labels in loops_of(function):
            for label, _, ops, _ in function[3]:
                for op in ops:
                    homes = [home_of(function, arg[1]) for arg in op[3] if arg[0] == "v" and arg[1] >= len(function[1])]
                    if label in labels and is_pure(op) and all(home[0] not in labels for home in homes):
                        found.add((function[0], op[0]))
    return tuple(sorted(found))


class Hoisting(Passes, unittest.TestCase):
    def check(self, module):
        paper = pass_hoist(module)
        self.assertEqual(loose_ops(module), loose_by_words(module))
        row, later = self.made(module, paper, ("land", "put_in", "use", "take_out"))
        self.assertTrue(all(step[4][0] == "same" for step in paper if step[0] == "use"))
        self.assertEqual(loose_ops(later), ())
        self.assertEqual(loose_by_words(later), ())
        self.assertEqual(pass_hoist(later), ())
        loose = {name for name, _ in loose_ops(module)}
        for old, new in zip(module[1], later[1]):
            steps = [step for step in paper if step[1] == old[0]]
            heads, pure = len(loops_of(old)), sum(is_pure(op) for block in old[3] for op in block[2])
            self.assertLessEqual(len(steps), heads + 3 * pure * heads)
            self.assertEqual(steps == [], old[0] not in loose)
            self.assertEqual([head for head, _ in loops_of(old)], [head for head, _ in loops_of(new)])
            self.assertLessEqual(*(sum(len(block[2]) for block in function[3]) for function in (new, old)))
        return paper, later

    def leads(self, body, later):
        paper, new = self.check(admitted_text(HEAD + body + "}" + MAIN))
        self.assertEqual(flat(renumbered(new)), flat(renumbered(admitted_text(HEAD + later + "}" + MAIN))))
        return [step[0] for step in paper]

    def stays(self, body):
        self.assertEqual(self.leads(body, body), [])

    def test_one_loop(self):
        words = self.leads("b0(): jump b1(0) b1(i8 $3): $4 = mul i8 $0, $1 $5 = add i8 $3, $4 $6 = cmp ult i8 $5, 9 branch $6, b1($5), b2() b2(): return $4",
                           "b0(): $4 = mul i8 $0, $1 jump b1(0) b1(i8 $3): $5 = add i8 $3, $4 $6 = cmp ult i8 $5, 9 branch $6, b1($5), b2() b2(): return $4")
        self.assertEqual(words, ["put_in", "use", "take_out"])

    def test_a_landing_block_that_must_come(self):
        words = self.leads("b0(): branch $2, b1(), b2() b1(): $4 = mul i8 $0, $1 print i8 $4 branch $2, b1(), b2() b2(): return 0",
                           "b0(): branch $2, b3(), b2() b1(): print i8 $4 branch $2, b1(), b2() b2(): return 0 b3(): $4 = mul i8 $0, $1 jump b1()")
        self.assertEqual(words, ["land", "put_in", "use", "take_out"])
        self.stays("b0(): branch $2, b1(), b2() b1(): $4 = input i8 print i8 $4 branch $2, b1(), b2() b2(): return 0")

    def test_loose_only_behind_others(self):
        self.leads("b0(): jump b1() b1(): $4 = mul i8 $0, $1 $5 = add i8 $4, 1 $6 = xor i8 $5, $4 print i8 $6 branch $2, b1(), b2() b2(): return 0",
                   "b0(): $4 = mul i8 $0, $1 $5 = add i8 $4, 1 $6 = xor i8 $5, $4 jump b1() b1(): print i8 $6 branch $2, b1(), b2() b2(): return 0")

    def test_several_depths(self):
        """Each op goes ahead of the largest loop in which it is loose, also behind another one."""
        self.leads("""b0(): jump b1(0) b1(i8 $3): $4 = add i8 $3, 1 jump b2(0) b2(i8 $5): $6 = mul i8 $0, $1 $7 = mul i8 $4, $6 $8 = add i8 $5, $7 $9 = at i8 @t, $4 store i8 $8, $9
            branch $2, b2($8), b3() b3(): branch $2, b1($4), b4() b4(): return $7""",
                   """b0(): $6 = mul i8 $0, $1 jump b1(0) b1(i8 $3): $4 = add i8 $3, 1 $7 = mul i8 $4, $6 $9 = at i8 @t, $4 jump b2(0) b2(i8 $5): $8 = add i8 $5, $7 store i8 $8, $9
            branch $2, b2($8), b3() b3(): branch $2, b1($4), b4() b4(): return $7""")

    def test_what_is_not_pure(self):
        for op in ("udiv i8 $0, $1", "srem i8 $0, 0", "load i8 @t", "input i8", "alloca i8, 1", "call @main()"):
            self.stays(f"b0(): jump b1() b1(): $4 = {op} branch $2, b1(), b2() b2(): return 0")
        for op in ("udiv i8 $0, 3", "cmp ult i8 $0, $1", "select i8 $2, $0, $1", "zext i8 $0 to i16", "at i8 @t, 1", "add i8 1, 2"):
            self.leads(f"b0(): jump b1() b1(): $4 = {op} branch $2, b1(), b2() b2(): return 0", f"b0(): $4 = {op} jump b1() b1(): branch $2, b1(), b2() b2(): return 0")

    def test_args_made_in_the_loop(self):
        self.stays("b0(): jump b1(0) b1(i8 $3): $4 = add i8 $3, 1 jump b2() b2(): $5 = add i8 $4, 1 branch $2, b1($5), b3() b3(): $6 = add i8 $0, 1 return $6")

    def test_only_in_some_rounds(self):
        """Also what only some rounds come to goes ahead; it is pure."""
        self.leads("b0(): jump b1() b1(): branch $2, b2(), b3() b2(): $4 = add i8 $0, 1 print i8 $4 jump b1() b3(): return 0",
                   "b0(): $4 = add i8 $0, 1 jump b1() b1(): branch $2, b2(), b3() b2(): print i8 $4 jump b1() b3(): return 0")

    def test_unreached_blocks_and_rings(self):
        self.stays("b0(): return 0 b1(): $4 = add i8 $0, 1 jump b1()")
        self.stays("b0(): branch $2, b1(), b2() b1(): $4 = add i8 $0, 1 jump b2() b2(): $5 = add i8 $0, 1 jump b1()")
        self.leads("b0(): jump b1() b1(): $4 = add i8 $0, 1 branch $2, b1(), b2() b2(): return 0 b3(): print i8 $4 jump b1()",
                   "b0(): jump b4() b1(): branch $2, b1(), b2() b2(): return 0 b3(): print i8 $4 jump b4() b4(): $4 = add i8 $0, 1 jump b1()")

    def test_landing_blocks_that_are_heads(self):
        """An inner loop's landing block is the head of the outer one."""
        self.leads("b0(): jump b1(0) b1(i8 $3): jump b2() b2(): $4 = add i8 $3, 1 branch $2, b2(), b3() b3(): branch $2, b1($4), b4() b4(): return 0",
                   "b0(): jump b1(0) b1(i8 $3): $4 = add i8 $3, 1 jump b2() b2(): branch $2, b2(), b3() b3(): branch $2, b1($4), b4() b4(): return 0")

    def test_drawn(self):
        many = 0
        for rng in sources(200):
            module = any_module(rng)
            paper, later = self.check(module)
            many += len(paper)
            self.same_ends(module, later, paper)
        self.assertGreater(many, 1000)

    def test_large(self):
        """Loops within one another, 40 deep, in the last of which all ops are loose at several depths."""
        deep = 40
        rows = "".join(f"b{at}(i8 ${at + 100}): jump b{at + 1}(0) " for at in range(1, deep))
        ops = " ".join(f"${at} = add i8 ${at - 1 if at % 3 else 100 + at % deep + 1}, 1" for at in range(201, 800))
        ends = "".join(f"b{at + 50}(): ${at + 1000} = add i8 ${at + 100}, 1 branch $2, b{at}(${at + 1000}), b{at + 49}() " for at in range(deep - 1, 0, -1))
        text = f"{HEAD} b0(): $200 = add i8 $0, 1 jump b1(0) {rows} b{deep}(i8 ${deep + 100}): {ops} branch $2, b{deep}(3), b{deep + 49}() {ends} b50(): return 0 }}" + MAIN
        module = admitted_text(text)
        self.assertEqual(len(loops_of(module[1][0])), deep)
        paper = pass_hoist(module)
        self.assertGreater(len(paper), 1500)
        self.assertEqual(loose_ops(judged(module, paper)), ())


if __name__ == "__main__":
    unittest.main()
