"""[68]: peeling."""

import unittest

from anypasses.errors import InvalidQuestion, Refused
from anypasses.judge import judged
from anypasses.loops import loops_of
from anypasses.peeling import is_plain, peel_paper
from anypasses.renumbering import renumbered
from anypasses.shapes import end_targets
from anypasses.webs import block_at, reached_labels
from loose_oracle import ways_into
from making import sources, web_function
from passing import MAIN, Passes, any_module, function_of
from stepping import admitted_text, flat

HEAD = "define i8 @f(i8, i1){ "


def plain_by_words(function, head):
    """From no label do ways within the loop, without its head, lead back to it."""
    labels = set(dict(loops_of(function))[head]) - {head}
    web = {label: {other for other, _ in end_targets(block_at(function, label)[3])} & labels for label in labels}
    for label in labels:
        found = set(web[label])
        while True:
            more = found.union(*[web[other] for other in found])
            if more == found:
                break
            found = more
        if label in found:
            return False
    return True


class Peeling(Passes, unittest.TestCase):
    def peeled(self, module, name, head):
        old = function_of(module, name)
        paper = peel_paper(module, name, head)
        _, later = self.made(module, paper, ("drop", "carry", "twin"))
        new, labels, reached = function_of(later, name), dict(loops_of(old))[head], reached_labels(old)
        values = sum(len(block[1]) + sum(op[0] is not None for op in block[2]) for block in old[3] if block[0] in labels)
        self.assertLessEqual(len(paper), 1 + values + len(labels))
        self.assertEqual([block[0] for block in new[3][:len(reached)]], [block[0] for block in old[3] if block[0] in reached])
        self.assertEqual(len(new[3]), len(reached) + len(labels))
        self.assertEqual(dict(loops_of(new))[head], labels)
        copies = [block[0] for block in new[3][len(reached):]]
        for label in labels:
            outer = [block[0] for block, _ in ways_into(new, label) if block[0] not in labels]
            self.assertTrue(set(outer) <= set(copies) if label == head else outer == [])
        for block, at in ways_into(old, head):
            if block[0] in reached and block[0] not in labels:
                self.assertIn(end_targets(block_at(new, block[0])[3])[at][0], copies)
        self.equal_runs(module, later)
        return paper, later

    def leads(self, body, head, later):
        module = admitted_text(HEAD + body + "}" + MAIN)
        paper, new = self.peeled(module, "f", head)
        self.assertEqual(flat(renumbered(new)), flat(renumbered(admitted_text(HEAD + later + "}" + MAIN))))
        return [step[0] for step in paper]

    def test_a_loop_with_a_test(self):
        words = self.leads("b0(): jump b1(0) b1(i8 $2): $3 = cmp ult i8 $2, $0 branch $3, b2(), b3() b2(): $4 = add i8 $2, 1 jump b1($4) b3(): return $2", 1,
                           """b0(): jump b4(0) b1(i8 $2): $3 = cmp ult i8 $2, $0 branch $3, b2($2), b3($2) b2(i8 $5): $4 = add i8 $5, 1 jump b1($4) b3(i8 $6): return $6
                           b4(i8 $7): $8 = cmp ult i8 $7, $0 branch $8, b5($7), b3($7) b5(i8 $9): $10 = add i8 $9, 1 jump b1($10)""")
        self.assertEqual(words, ["carry", "twin", "twin"])

    def test_a_loop_of_one_block(self):
        words = self.leads("b0(): jump b1(0) b1(i8 $2): $3 = add i8 $2, 1 branch $1, b1($3), b2() b2(): return 0", 1,
                           "b0(): jump b3(0) b1(i8 $2): $3 = add i8 $2, 1 branch $1, b1($3), b2() b2(): return 0 b3(i8 $4): $5 = add i8 $4, 1 branch $1, b1($5), b2()")
        self.assertEqual(words, ["twin"])

    def test_unreached_blocks_are_dropped(self):
        words = self.leads("b0(): jump b1() b1(): branch $1, b1(), b2() b2(): return 0 b3(): jump b1()", 1,
                           "b0(): jump b3() b1(): branch $1, b1(), b2() b2(): return 0 b3(): branch $1, b1(), b2()")
        self.assertEqual(words, ["drop", "twin"])

    def test_several_turns_and_branches(self):
        self.leads("b0(): jump b1() b1(): branch $1, b2(), b3() b2(): branch $1, b1(), b4() b3(): jump b4() b4(): branch $1, b1(), b5() b5(): return 0", 1,
                   """b0(): jump b6() b1(): branch $1, b2(), b3() b2(): branch $1, b1(), b4() b3(): jump b4() b4(): branch $1, b1(), b5() b5(): return 0
                   b6(): branch $1, b8(), b7() b7(): jump b9() b8(): branch $1, b1(), b9() b9(): branch $1, b1(), b5()""")

    def test_plain_or_not(self):
        for body, told in (
                ("b1(): branch $1, b1(), b9()", True), ("b1(): jump b2() b2(): branch $1, b1(), b9()", True), ("b1(): jump b2() b2(): branch $1, b2(), b3() b3(): branch $1, b1(), b9()", False),
                ("b1(): branch $1, b2(), b3() b2(): jump b3() b3(): branch $1, b2(), b1()", False), ("b1(): branch $1, b2(), b3() b2(): jump b1() b3(): branch $1, b2(), b1()", True),
                ("b1(): branch $1, b1(), b2() b2(): jump b1()", True)):
            function = admitted_text(HEAD + "b0(): jump b1() " + body + " b9(): return 0 }" + MAIN)[1][0]
            self.assertIs(is_plain(function, 1), told, body)
            self.assertIs(plain_by_words(function, 1), told)

    def test_loops_that_are_not_plain(self):
        module = admitted_text(HEAD + "b0(): jump b1() b1(): jump b2() b2(): branch $1, b2(), b3() b3(): branch $1, b1(), b4() b4(): return 0 }" + MAIN)
        self.asked_wrong(Refused, 2, peel_paper, module, "f", 1)
        self.assertIs(is_plain(module[1][0], 2), True)
        self.peeled(module, "f", 2)

    def test_wrong_values(self):
        module = admitted_text(HEAD + "b0(): jump b1() b1(): branch $1, b1(), b2() b2(): return 0 b3(): jump b3() }" + MAIN)
        for value in (None, 0, 1, True, "", "g", "F", b"f", ("f",), ["f"], {}, 1.0):
            for head in (1, 7, None):
                self.asked_wrong(InvalidQuestion, 1, peel_paper, module, value, head)
        for value in (0, 2, 3, 9, -1, True, None, "1", 1.0, (1,), [1], {}):
            self.asked_wrong(InvalidQuestion, 2, peel_paper, module, "f", value)
            self.asked_wrong(InvalidQuestion, 0, is_plain, module[1][0], value)
        self.asked_wrong(InvalidQuestion, 2, peel_paper, module, "main", 1)
        self.assertEqual(peel_paper(module, "f", 1)[0], ("drop", "f"))

    def test_again_and_again(self):
        module = admitted_text(HEAD + "b0(): jump b1(0, 9) b1(i8 $2, i8 $5): print i8 $2 $3 = cmp ult i8 $2, $0 branch $3, b2(), b3($5) b2(): $4 = add i8 $2, $5 jump b1($4, $2) b3(i8 $6): $7 = add i8 $6, $2 return $7 }"
                               " define i8 @main(){ b0(): $0 = input i8 $1 = call @f($0, 1) return $1 }")
        for count in range(5):
            paper, module = self.peeled(module, "f", 1)
            self.assertEqual([step[0] for step in paper].count("twin"), 2)
            self.assertEqual(len(function_of(module, "f")[3]), 4 + 2 * (count + 1))

    def test_drawn(self):
        plain = others = 0
        for rng in sources(160):
            module = any_module(rng)
            for function in module[1]:
                for head, _ in loops_of(function)[:4]:
                    told = plain_by_words(function, head)
                    self.assertIs(is_plain(function, head), told)
                    if told:
                        self.peeled(module, function[0], head)
                    else:
                        self.asked_wrong(Refused, 2, peel_paper, module, function[0], head)
                    plain, others = plain + told, others + (not told)
        self.assertGreater(plain, 100)
        self.assertGreater(others, 30)

    def test_webs(self):
        for rng in sources(150, seed=1):
            module = ((), (web_function(rng, 9), ("main", (), 8, ((0, (), (), ("return", ("n", 0))),))))
            for head, _ in loops_of(module[1][0]):
                if plain_by_words(module[1][0], head):
                    self.peeled(module, "f", head)

    def test_large(self):
        """A plain loop of many blocks, each of which uses what others make."""
        rows = "".join(f"b{at}(): ${at} = add i8 ${at - 1}, ${max(2, at - 9)} jump b{at + 1}() " for at in range(3, 90))
        text = HEAD + "b0(): jump b2($0) b2(i8 $2): jump b3() " + rows + "b90(): branch $1, b2($89), b91() b91(): return $40 }"
        module = admitted_text(text + MAIN)
        paper = peel_paper(module, "f", 2)
        later = judged(module, paper)
        self.assertEqual(len(function_of(later, "f")[3]), 91 + 89)


if __name__ == "__main__":
    unittest.main()
