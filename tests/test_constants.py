"""[55]: constants."""

import unittest

from anypasses.constants import loose_number, pass_constants
from anypasses.webs import reached_labels
from loose_oracle import is_loose, many_things, some_loose
from making import sources
from passing import MAIN, Passes, any_module
from stepping import admitted_text, flat

WORDS = ("use", "pick", "drop")


class Constants(Passes, unittest.TestCase):
    def check(self, module):
        """The pass tells loose steps alone, not too many, behind which none is loose."""
        step, paper = loose_number(module), pass_constants(module)
        self.assertEqual(step is None, some_loose(module, False) is None)
        self.assertEqual(step is None, paper == ())
        self.assertTrue(step is None or is_loose(module, step, False), step)
        row, later = self.made(module, paper, WORDS)
        for now, step in row:
            self.assertTrue(is_loose(now, step, False), step)
        self.assertLessEqual(len(paper), many_things(module))
        self.assertIsNone(loose_number(later))
        self.assertIsNone(some_loose(later, False))
        self.assertEqual(pass_constants(later), ())
        for function in later[1]:
            self.assertEqual(len(reached_labels(function)), len(function[3]))
            for block in function[3]:
                self.assertFalse(block[3][0] == "branch" and (block[3][1][0] == "n" or block[3][2] == block[3][3]))
        return paper, later

    def leads(self, body, later, head="define i8 @f(i8, i1){ "):
        paper, new = self.check(admitted_text(head + body + "}" + MAIN))
        self.assertEqual(flat(new), flat(admitted_text(head + later + "}" + MAIN)))
        return paper

    def test_each_kind_and_none(self):
        for body, word in (
                ("b0(): $2 = add i8 $0, 1 return $2", None), ("b0(): $2 = add i8 3, 1 return $2", "use"), ("b0(): $2 = add i8 3, 1 return $0", None),
                ("b0(): branch 1, b1(), b2() b1(): return 1 b2(): return 2", "pick"), ("b0(): branch $1, b1(), b1() b1(): return 1", "pick"),
                ("b0(): branch $1, b1(), b2() b1(): return 1 b2(): return 2", None), ("b0(): return 1 b2(): return 2", "drop"),
                ("b0(): jump b1(4) b1(i8 $2): return $2", "use"), ("b0(): jump b1(4) b1(i8 $2): return 3", None), ("b0(): jump b1($0) b1(i8 $2): return $2", None),
                ("b0(): $2 = sext i1 1 to i8 return $2", "use"), ("b0(): $2 = udiv i8 3, 0 return $2", "use"), ("b0(): $2 = mul i8 $0, 0 return $2", "use"),
                ("b0(): $2 = and i8 $0, 0 return $2", "use"), ("b0(): $2 = and i8 $0, 1 return $2", None), ("b0(): $2 = cmp ult i8 $0, 0 $3 = zext i1 $2 to i8 return $3", "use")):
            module = admitted_text("define i8 @f(i8, i1){ " + body + "}" + MAIN)
            step = loose_number(module)
            self.assertEqual(None if step is None else step[0], word, body)
            self.check(module)

    def test_values_that_nothing_uses(self):
        """A value is used if any op or ending has it, also in its own block; unused ones stay as they are."""
        self.leads("b0(): $2 = add i8 1, 2 $3 = add i8 $2, 4 return $0", "b0(): $2 = add i8 1, 2 $3 = add i8 3, 4 return $0")
        self.leads("b0(): $2 = add i8 1, 2 jump b1($2) b1(i8 $3): return 4", "b0(): $2 = add i8 1, 2 jump b1(3) b1(i8 $3): return 4")

    def test_folds_behind_folds(self):
        """Casts that no range tells are folded, and what they tell goes on through a block's param."""
        paper = self.leads("b0(): $2 = trunc i16 513 to i8 $3 = sext i8 $2 to i16 $4 = cmp slt i16 $3, 65535 branch $4, b1(), b2($3) b1(): return 0 b2(i16 $5): $6 = trunc i16 $5 to i8 return $6",
                           "b0(): $2 = trunc i16 513 to i8 $3 = sext i8 1 to i16 $4 = cmp slt i16 1, 65535 jump b2(1) b2(i16 $5): $6 = trunc i16 1 to i8 return 1")
        self.assertEqual({step[4][0] for step in paper if step[0] == "use"}, {"fold", "range"})

    def test_branches_that_fall_with_values_known_only_as_they_go(self):
        body = """b0(): jump b1(1) b1(i8 $2): $3 = cmp eq i8 $2, 1 branch $3, b2(), b3() b2(): $4 = cmp ult i8 $0, 9 branch $4, b1($2), b4()
            b3(): jump b1(7) b4(): return $2"""
        paper = self.leads(body, """b0(): jump b1(1) b1(i8 $2): $3 = cmp eq i8 1, 1 jump b2() b2(): $4 = cmp ult i8 $0, 9 branch $4, b1(1), b4() b4(): return 1""")
        self.assertEqual([step[0] for step in paper].count("pick"), 1)

    def test_a_number_round_two_loops(self):
        self.leads("""b0(): jump b1(5, 5) b1(i8 $2, i8 $3): $4 = sub i8 $2, $3 $5 = cmp eq i8 $4, 0 branch $5, b2(), b3() b2(): $6 = cmp ult i8 $0, 3 branch $6, b1($3, $2), b4()
            b3(): jump b1(1, 2) b4(): return $4""",
                   """b0(): jump b1(5, 5) b1(i8 $2, i8 $3): $4 = sub i8 5, 5 $5 = cmp eq i8 0, 0 jump b2() b2(): $6 = cmp ult i8 $0, 3 branch $6, b1(5, 5), b4() b4(): return 0""")

    def test_behind_one_side_alone(self):
        """A value that is a number only behind a branch stays; constants ask where a value is made."""
        body = "b0(): $2 = cmp eq i8 $0, 5 branch $2, b1(), b2() b1(): print i8 $0 return $0 b2(): return 1"
        self.leads(body, body)

    def test_unreached_blocks_that_use(self):
        self.leads("b0(): $2 = add i8 1, 2 return $0 b1(): return $2", "b0(): $2 = add i8 1, 2 return $0")

    def test_each_function(self):
        module = admitted_text("define i8 @f(){ b0(): $0 = add i8 1, 1 return $0 } define i8 @g(){ b0(): branch 1, b1(), b1() b1(): return 2 } define i8 @main(){ b0(): return 0 b1(): stop }")
        paper, _ = self.check(module)
        self.assertEqual(paper, (("use", "f", 0, ("n", 2), ("fold",)), ("pick", "g", 0), ("drop", "main")))

    def test_drawn(self):
        steps = {}
        for rng in sources(140):
            module = any_module(rng)
            paper, later = self.check(module)
            for step in paper:
                word = step[4][0] if step[0] == "use" else step[0]
                steps[word] = steps.get(word, 0) + 1
            self.same_ends(module, later, paper)
        self.assertEqual(set(steps), {"fold", "range", "pick", "drop"})
        self.assertGreater(min(steps.values()), 40)

    def test_large(self):
        """A long row of blocks, each of which makes more known only when the one before is."""
        rows = " ".join(f"b{at}(i8 ${at}): ${at + 200} = sext i8 ${at} to i16 ${at + 400} = trunc i16 ${at + 200} to i8 jump b{at + 1}(${at + 400})" for at in range(10, 70))
        module = admitted_text("define i8 @f(i8, i1){ b0(): jump b10(7) " + rows + " b70(i8 $70): return $70 }" + MAIN)
        paper = pass_constants(module)
        _, later = self.made(module, paper, WORDS)
        self.assertEqual(len(paper), 3 * 60 + 1)
        self.assertEqual(later[1][0][3][-1][3], ("return", ("n", 7)))
        self.assertIsNone(loose_number(later))


if __name__ == "__main__":
    unittest.main()
