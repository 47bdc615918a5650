"""[69]: turning."""

import unittest

from anypasses.loops import loops_of, turns_of
from anypasses.renumbering import renumbered
from anypasses.shapes import defined_values
from anypasses.turning import pass_turn, unturned_heads
from anypasses.webs import block_at
from making import sources, web_function
from passing import MAIN, Passes, any_module
from stepping import admitted_text, flat

HEAD = "define i8 @f(i8, i1){ "


def unturned_by_words(function):
    found = []
    for head, labels in loops_of(function):
        end = block_at(function, head)[3]
        if end[0] != "branch":
            continue
        within = [target[0] for target in end[2:] if target[0] in labels]
        lasts = [block_at(function, source)[3][0] for source, other in turns_of(function) if other == head]
        if len(within) == 1 and within[0] != head and set(lasts) == {"jump"}:
            found.append(head)
    return tuple(found)


class Turning(Passes, unittest.TestCase):
    def check(self, module):
        paper = pass_turn(module)
        _, later = self.made(module, paper, ("drop", "carry", "twin"))
        for old, new in zip(module[1], later[1]):
            heads = unturned_heads(old)
            self.assertEqual(heads, unturned_by_words(old))
            steps = [step for step in paper if step[1] == old[0]]
            self.assertLessEqual(len(steps), 1 + len(heads) + len(defined_values(old)) if heads else 0)
            self.assertEqual(unturned_heads(new), ())
            self.assertTrue(heads or old == new)
        self.assertEqual(pass_turn(later), ())
        self.equal_runs(module, later)
        return paper, later

    def leads(self, body, later):
        paper, new = self.check(admitted_text(HEAD + body + "}" + MAIN))
        self.assertEqual(flat(renumbered(new)), flat(renumbered(admitted_text(HEAD + later + "}" + MAIN))))
        return [step[0] for step in paper]

    def test_unturned_or_not(self):
        for body, told in (
                ("b1(): branch $1, b2(), b9() b2(): jump b1()", (1,)), ("b1(): branch $1, b9(), b2() b2(): jump b1()", (1,)), ("b1(): branch $1, b1(), b9()", ()),
                ("b1(): jump b2() b2(): branch $1, b1(), b9()", ()), ("b1(): branch $1, b2(), b9() b2(): branch $1, b1(), b9()", ()), ("b1(): branch $1, b2(), b3() b2(): jump b1() b3(): jump b1()", ()),
                ("b1(): branch $1, b2(), b2() b2(): jump b1()", ()), ("b1(): branch $1, b2(), b1() b2(): jump b1()", ()), ("b1(): branch 1, b2(), b9() b2(): jump b1()", (1,)),
                ("b1(): branch $1, b2(), b9() b2(): branch $1, b3(), b4() b3(): jump b1() b4(): jump b1()", (1,)), ("b1(): branch $1, b2(), b9() b2(): branch $1, b3(), b1() b3(): jump b1()", ()),
                ("b1(): branch $1, b2(), b9() b2(): branch $1, b3(), b5() b3(): jump b2() b5(): jump b1()", (1, 2)), ("b1(): jump b1()", ())):
            module = admitted_text(HEAD + "b0(): jump b1() " + body + " b9(): return 0 }" + MAIN)
            self.assertEqual(unturned_heads(module[1][0]), told, body)
            self.check(module)

    def test_by_hand(self):
        words = self.leads("b0(): jump b1(0) b1(i8 $2): $3 = cmp ult i8 $2, $0 branch $3, b2(), b3() b2(): $4 = add i8 $2, 1 jump b1($4) b3(): return $2",
                           """b0(): jump b1(0) b1(i8 $2): $3 = cmp ult i8 $2, $0 branch $3, b2($2), b3($2) b2(i8 $5): $4 = add i8 $5, 1 jump b4($4) b3(i8 $6): return $6
                           b4(i8 $7): $8 = cmp ult i8 $7, $0 branch $8, b2($7), b3($7)""")
        self.assertEqual(words, ["carry", "twin"])

    def test_unreached_blocks_are_dropped(self):
        words = self.leads("b0(): jump b1() b1(): $2 = input i1 branch $2, b2(), b3() b2(): jump b1() b3(): return 0 b4(): branch $2, b1(), b2()",
                           "b0(): jump b1() b1(): $2 = input i1 branch $2, b2(), b3() b2(): jump b4() b3(): return 0 b4(): $3 = input i1 branch $3, b2(), b3()")
        self.assertEqual(words, ["drop", "twin"])
        self.assertEqual(self.leads("b0(): return 0 b1(): branch $1, b2(), b1() b2(): jump b1()", "b0(): return 0 b1(): branch $1, b2(), b1() b2(): jump b1()"), [])

    def test_within_one_another_and_side_by_side(self):
        module = admitted_text(HEAD + """b0(): jump b1(0) b1(i8 $2): $3 = cmp ult i8 $2, $0 branch $3, b2(0), b5(0) b2(i8 $4): $5 = cmp ult i8 $4, $2 branch $5, b3(), b4() b3(): $6 = add i8 $4, 1 print i8 $6 jump b2($6)
            b4(): $7 = add i8 $2, 1 jump b1($7) b5(i8 $8): $9 = cmp ult i8 $8, $2 branch $9, b6(), b7() b6(): $10 = add i8 $8, $2 jump b5($10) b7(): return $8 }
            define i8 @main(){ b0(): $0 = input i8 $1 = call @f($0, 1) return $1 }""")
        self.assertEqual(unturned_heads(module[1][0]), (1, 2, 5))
        paper, _ = self.check(module)
        self.assertEqual([step[2] for step in paper if step[0] == "twin"], [1, 5])

    def test_an_inner_head_right_behind(self):
        """Behind the turn of the outer loop its head is that of the inner one, so that both are one loop."""
        module = admitted_text(HEAD + """b0(): jump b1() b1(): $2 = input i1 branch $2, b2(), b9() b2(): $3 = input i1 branch $3, b3(), b4() b3(): print i1 $2 jump b2() b4(): print i1 $3 jump b1() b9(): return 0 }""" + MAIN)
        self.assertEqual(unturned_heads(module[1][0]), (1, 2))
        self.check(module)

    def test_drawn(self):
        many = 0
        for rng in sources(200):
            module = any_module(rng)
            paper, _ = self.check(module)
            many += sum(step[0] == "twin" for step in paper)
        self.assertGreater(many, 60)

    def test_webs(self):
        for rng in sources(300, seed=1):
            self.check(((), (web_function(rng, 9), ("main", (), 8, ((0, (), (), ("return", ("n", 0))),)))))

    def test_large(self):
        """Many loops one behind the other, each of which hands on what the one before it counted."""
        rows = "".join(f"b{3 * at}(i8 ${3 * at}): ${3 * at + 1} = cmp ult i8 ${3 * at}, $0 branch ${3 * at + 1}, b{3 * at + 1}(), b{3 * at + 3}(${3 * at}) b{3 * at + 1}(): ${3 * at + 2} = add i8 ${3 * at}, 1 jump b{3 * at}(${3 * at + 2}) "
                       for at in range(1, 60))
        module = admitted_text(HEAD + "b0(): jump b3(0) " + rows + "b180(i8 $180): return $180 }" + MAIN)
        self.assertEqual(len(unturned_heads(module[1][0])), 59)
        paper = pass_turn(module)
        self.assertEqual([step[0] for step in paper].count("twin"), 59)


if __name__ == "__main__":
    unittest.main()
