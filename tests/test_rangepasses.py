"""[57]: pass ranges."""

import unittest

from anypasses.rangepasses import loose_range, pass_ranges
from anypasses.webs import reached_labels
from loose_oracle import is_loose, many_things, some_loose
from making import sources
from passing import MAIN, Passes, any_module
from stepping import admitted_text, flat

WORDS = ("use", "use_in", "pick", "drop")


class Ranges(Passes, unittest.TestCase):
    def check(self, module):
        step, paper = loose_range(module), pass_ranges(module)
        self.assertEqual(step is None, some_loose(module, True) is None)
        self.assertEqual(step is None, paper == ())
        self.assertTrue(step is None or is_loose(module, step, True), step)
        row, later = self.made(module, paper, WORDS)
        for now, step in row:
            self.assertTrue(is_loose(now, step, True), step)
        self.assertLessEqual(len(paper), many_things(module))
        self.assertIsNone(loose_range(later))
        self.assertIsNone(some_loose(later, True))
        self.assertEqual(pass_ranges(later), ())
        for function in later[1]:
            self.assertEqual(len(reached_labels(function)), len(function[3]))
        return paper, later

    def leads(self, body, later, head="define i8 @f(i8, i1){ "):
        paper, new = self.check(admitted_text(head + body + "}" + MAIN))
        self.assertEqual(flat(new), flat(admitted_text(head + later + "}" + MAIN)))
        return [step[4][0] if step[0] == "use" else step[0] for step in paper]

    def test_each_kind_and_none(self):
        for body, word in (
                ("b0(): $2 = add i8 $0, 1 return $2", None), ("b0(): $2 = add i8 3, 1 return $2", "use"), ("b0(): branch 1, b1(), b2() b1(): return 1 b2(): return 2", "pick"),
                ("b0(): return 1 b2(): return 2", "drop"), ("b0(): $2 = and i8 $0, 7 $3 = cmp ult i8 $2, 8 $4 = zext i1 $3 to i8 return $4", "use"),
                ("b0(): $2 = and i8 $0, 7 $3 = cmp ult i8 $2, 7 $4 = zext i1 $3 to i8 return $4", None), ("b0(): branch $1, b1(), b2() b1(): $2 = zext i1 $1 to i8 return $2 b2(): return 2", "use_in"),
                ("b0(): branch $1, b1(), b2() b1(): return 1 b2(): return 2", None), ("b0(): $2 = cmp eq i8 $0, 5 branch $2, b1(), b2() b1(): return $0 b2(): return 2", "use_in"),
                ("b0(): $2 = cmp ne i8 $0, 5 branch $2, b1(), b2() b1(): return $0 b2(): return 2", None), ("b0(): $2 = cmp ne i8 $0, 5 branch $2, b1(), b2() b1(): return 1 b2(): return $0", "use_in")):
            module = admitted_text("define i8 @f(i8, i1){ " + body + "}" + MAIN)
            step = loose_range(module)
            self.assertEqual(None if step is None else step[0], word, body)
            self.check(module)

    def test_comparisons_that_ranges_decide(self):
        words = self.leads("""b0(): jump b1(0) b1(i8 $2): $3 = cmp ult i8 $2, 10 branch $3, b2(), b3() b2(): $4 = cmp ult i8 $2, 100 branch $4, b4(), b5() b4(): $5 = add i8 $2, 1 jump b1($5)
            b5(): return 77 b3(): $6 = cmp ule i8 10, $2 branch $6, b6(), b7() b6(): return $2 b7(): return 78""",
                           """b0(): jump b1(0) b1(i8 $2): $3 = cmp ult i8 $2, 10 branch $3, b2(), b3() b2(): $4 = cmp ult i8 $2, 100 jump b4() b4(): $5 = add i8 $2, 1 jump b1($5)
            b3(): $6 = cmp ule i8 10, $2 jump b6() b6(): return $2""")
        self.assertEqual(sorted(set(words)), ["drop", "pick", "range"])

    def test_sides_behind_sides(self):
        """Where a side tells one operand of a comparison, the other one is known behind the next side."""
        words = self.leads("""b0(): $2 = input i8 $3 = cmp eq i8 $2, 4 branch $3, b1(), b9() b1(): $4 = cmp eq i8 $0, $2 branch $4, b2(), b9() b2(): $5 = add i8 $0, $2 print i8 $5 return $0
            b9(): return 0""",
                           """b0(): $2 = input i8 $3 = cmp eq i8 $2, 4 branch $3, b1(), b9() b1(): $4 = cmp eq i8 $0, 4 branch $4, b2(), b9() b2(): $5 = add i8 4, 4 print i8 8 return 4
            b9(): return 0""")
        self.assertEqual(words.count("use_in"), 2)

    def test_the_same_branch_again(self):
        words = self.leads("b0(): branch $1, b1(), b2() b1(): jump b3() b3(): branch $1, b4(), b5() b4(): return 4 b5(): return 5 b2(): branch $1, b6(), b7() b6(): return 6 b7(): return 7",
                           "b0(): branch $1, b1(), b2() b1(): jump b3() b3(): jump b4() b4(): return 4 b2(): jump b7() b7(): return 7")
        self.assertEqual(sorted(words), ["drop", "pick", "pick", "use_in", "use_in"])

    def test_args_behind_a_side(self):
        """What a side hands on is an operand there; what the branch itself hands on to it is not."""
        self.leads("b0(): $2 = cmp eq i8 $0, 3 branch $2, b1($0), b2() b1(i8 $3): jump b3($0, $3) b3(i8 $4, i8 $5): $6 = add i8 $4, $5 return $6 b2(): return $0",
                   "b0(): $2 = cmp eq i8 $0, 3 branch $2, b1($0), b2() b1(i8 $3): jump b3(3, 3) b3(i8 $4, i8 $5): $6 = add i8 3, 3 return 6 b2(): return $0")

    def test_only_behind_the_side(self):
        body = "b0(): $2 = cmp eq i8 $0, 3 branch $2, b1(), b2() b1(): print i8 7 jump b3() b2(): print i8 $0 jump b3() b3(): return $0"
        self.leads(body, body)

    def test_drawn(self):
        steps = {}
        for rng in sources(140, seed=1):
            module = any_module(rng)
            paper, later = self.check(module)
            for step in paper:
                word = step[4][0] if step[0] == "use" else step[0]
                steps[word] = steps.get(word, 0) + 1
            self.same_ends(module, later, paper)
        self.assertEqual(set(steps), {"fold", "range", "use_in", "pick", "drop"})
        self.assertGreater(min(steps.values()), 20)


if __name__ == "__main__":
    unittest.main()
