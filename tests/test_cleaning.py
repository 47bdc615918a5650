"""[52]: clean modules."""

import unittest

from anypasses.cleaning import is_clean, pass_clean
from anypasses.errors import InvalidStep
from anypasses.flow_steps import apply_flow
from anypasses.judge import judged, leads
from anypasses.machine import run_module
from anypasses.papers import is_paper
from anypasses.shapes import end_targets
from anypasses.webs import reached_labels
from lively import lively_module
from making import admitted_module, sources, web_function
from step_oracle import put
from stepping import INPUTS, admitted_text, flat

MAIN = " define i8 @main(){ b0(): return 0 }"


def clean_by_trying(module):
    """Whether none of the four steps fits, each being tried everywhere."""
    for name, _, _, blocks in module[1]:
        steps = [("drop", name)]
        for label, _, _, end in blocks:
            steps += [("pick", name, label), ("join", name, label)] + [("bend", name, label, at) for at in range(2)]
        for step in steps:
            try:
                apply_flow(module, step)
                return False
            except InvalidStep:
                pass
    return True


def clean_by_words(function):
    """The words of the fact in [52]."""
    blocks = {block[0]: block for block in function[3]}
    if len(reached_labels(function)) < len(blocks):
        return False
    ways = [(label, target[0]) for label in blocks for target in end_targets(blocks[label][3])]
    for label, params, ops, end in function[3]:
        if end[0] == "branch" and (end[1][0] == "n" or end[2] == end[3]):
            return False
        into = [source for source, head in ways if head == label]
        if len(into) == 1 and blocks[into[0]][3][0] != "branch":
            return False
        if into and not ops and end[0] == "jump" and end[1][0] != label:
            swaps = {value: None for value, _ in params}
            if not any(put(other[2:], swaps) != other[2:] for other in function[3] if other[0] != label):
                return False
    return True


class Clean(unittest.TestCase):
    def check(self, module):
        paper = pass_clean(module)
        later = judged(module, paper)
        self.assertTrue(is_paper(paper))
        self.assertIs(is_clean(later), True)
        self.assertTrue(clean_by_trying(later))
        self.assertEqual(pass_clean(later), ())
        self.assertIs(is_clean(module), paper == ())
        for name, _, _, blocks in module[1]:
            steps = [step for step in paper if step[1] == name]
            self.assertLessEqual(len(steps), 4 * (len(blocks) + 1) ** 3)
        self.assertTrue({step[0] for step in paper} <= {"pick", "drop", "join", "bend"})
        for old, new in zip(module[1], later[1]):
            self.assertLessEqual(len(new[3]), len(old[3]))
            self.assertLessEqual(sum(len(block[2]) for block in new[3]), sum(len(block[2]) for block in old[3]))
            self.assertLessEqual(sum(len(block[1]) for block in new[3]), sum(len(block[1]) for block in old[3]))
        return later

    def test_not_clean_in_each_way(self):
        for body, later in (
                ("b0(): return 0", None), ("b0(): branch 1, b1(), b2() b1(): return 1 b2(): return 2", "b0(): return 1"),
                ("b0(): branch $0, b1(), b1() b1(): return 1", "b0(): return 1"), ("b0(): branch $0, b1(1), b1(2) b1(i8 $2): return $2", None),
                ("b0(): branch $0, b1(), b2() b1(): return 1 b2(): return 2", None), ("b0(): return 0 b1(): jump b1()", "b0(): return 0"),
                ("b0(): jump b1() b1(): return 1", "b0(): return 1"), ("b0(): branch $0, b1(), b2() b1(): jump b3(1) b2(): jump b3(2) b3(i8 $2): return $2",
                                                                       "b0(): branch $0, b3(1), b3(2) b3(i8 $2): return $2"),
                ("b0(): branch $0, b1(), b2() b1(): print i8 1 jump b2() b2(): return 2", None), ("b0(): branch $0, b1(5), b2(6) b1(i8 $2): jump b2($2) b2(i8 $3): print i8 $3 return 2",
                                                                                                  "b0(): branch $0, b2(5), b2(6) b2(i8 $3): print i8 $3 return 2"),
                ("b0(): jump b1() b1(): jump b1()", None), ("b0(): branch $0, b1(), b2() b1(): jump b2() b2(): jump b2()", "b0(): jump b2() b2(): jump b2()")):
            module = admitted_text("define i8 @f(i1, i8){ " + body + "}" + MAIN)
            self.assertIs(is_clean(module), later is None, body)
            if later is not None:
                self.assertEqual(flat(self.check(module)), flat(admitted_text("define i8 @f(i1, i8){ " + later + "}" + MAIN)))

    def test_a_param_that_others_use_keeps_a_block(self):
        module = admitted_text("""define i8 @f(i1, i8){ b0(): branch $0, b1(4), b1(5) b1(i8 $2): jump b2() b2(): print i8 $2 $3 = input i1 branch $3, b2(), b3() b3(): return $2 }""" + MAIN)
        self.assertTrue(is_clean(module))
        self.check(module)

    def test_empty_blocks_in_a_row(self):
        rows = " ".join(f"b{at}(i8 ${at}): jump b{at + 1}(${at})" for at in range(10, 60))
        module = admitted_text("define i8 @f(i1, i8){ b0(): branch $0, b10(3), b30(4) " + rows + " b60(i8 $60): return $60 }" + MAIN)
        later = self.check(module)
        label, params, _, end = later[1][0][3][-1]
        self.assertEqual((len(later[1][0][3]), end), (2, ("return", ("v", params[0][0]))))
        self.assertEqual(later[1][0][3][0][3][2:], ((label, (("n", 3),)), (label, (("n", 4),))))

    def test_rings_of_empty_blocks(self):
        for count in (1, 2, 3, 8):
            rows = " ".join(f"b{10 + at}(): jump b{10 + (at + 1) % count}()" for at in range(count))
            for body in ("b0(): jump b10() ", "b0(): branch $0, b10(), b3() b3(): return 1 ", f"b0(): branch $0, b10(), b{9 + count}() "):
                module = admitted_text("define i8 @f(i1){ " + body + rows + "}" + MAIN)
                later = self.check(module)
                self.assertEqual(len([block for block in later[1][0][3] if block[0] >= 10]), 1)

    def test_rings_that_turn_params(self):
        module = admitted_text("""define i8 @f(i8, i1){ b0(): branch $1, b1($0, 1), b2(2, $0) b1(i8 $2, i8 $3): jump b2($3, $2) b2(i8 $4, i8 $5): jump b1($5, $4) }""" + MAIN)
        self.check(module)

    def test_many_blocks(self):
        for rng in sources(3, seed=9):
            blocks = []
            for at in range(120):
                heads = [rng.randrange(1, 120) for _ in range(rng.choice((1, 1, 2)))]
                targets = [(head, ()) for head in heads]
                ops = () if rng.random() < 0.8 else ((None, "print", (8,), (("n", 1),)),)
                end = ("jump", targets[0]) if len(targets) == 1 else ("branch", ("v", 0), targets[0], targets[1])
                blocks.append((at, (), ops, end))
            self.check(((), (("f", (1,), None, tuple(blocks)), ("main", (), 8, ((0, (), (), ("return", ("n", 0))),)))))

    def test_drawn(self):
        clean = 0
        for rng in sources(200):
            module = lively_module(rng) if rng.random() < 0.7 else admitted_module(rng)
            told = is_clean(module)
            self.assertIs(told, clean_by_trying(module))
            self.assertIs(told, all(clean_by_words(function) for function in module[1]))
            later = self.check(module)
            self.assertTrue(all(clean_by_words(function) for function in later[1]))
            clean += told
            for inputs in INPUTS:
                for fuel in (0, 1, 3, 8, 25):
                    run = run_module(later, inputs, fuel)
                    self.assertTrue(any(run == run_module(module, inputs, more) for more in list(range(fuel, 3 * fuel + 9)) + [100 * fuel + 999]))
            self.assertTrue(leads(module, pass_clean(module), later))
        self.assertGreater(clean, 3)

    def test_webs(self):
        """Functions without ops and values, in all shapes."""
        for rng in sources(200, seed=5):
            name, params, result, blocks = web_function(rng, 8)
            module = ((), ((name, params, result, blocks), ("main", (), 8, ((0, (), (), ("return", ("n", 0))),))))
            self.assertIs(is_clean(module), clean_by_trying(module))
            self.check(module)


if __name__ == "__main__":
    unittest.main()
