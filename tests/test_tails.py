"""[71]: tail calls, and late ones."""

import unittest

from anypasses.admission import module_fault
from anypasses.callgoals import tail_left
from anypasses.callpasses import pass_tails
from anypasses.renumbering import renumbered
from anypasses.shapes import defined_values
from anypasses.webs import block_at, reached_labels
from callers import calling_module
from making import sources
from passing import Passes, any_module, operands_in, uses_of
from stepping import admitted_text, flat


def tails_by_words(function):
    """The labels of blocks with a tail call, and of those with a late one."""
    name, _, result, blocks = function
    early, late, uses = [], [], uses_of(function)
    for label, _, ops, end in blocks:
        if not ops or ops[-1][1:3] != ("call", (name,)):
            continue
        value = ops[-1][0]
        if end == ("return", None if value is None else ("v", value)) and (value is None or uses[value] == 1):
            early.append(label)
        if end[0] != "jump" or label not in reached_labels(function):
            continue
        goal, args = block_at(function, end[1][0]), end[1][1]
        params = [param for param, _ in goal[1]]
        others = [arg[1] for block in blocks if block[0] != goal[0] for arg in operands_in(block[2:]) if arg[0] == "v"]
        if goal[2] or goal[3][0] != "return" or set(params) & set(others):
            continue
        handed = [("v", param) for param, arg in zip(params, args) if arg == ("v", value)]
        if result is None or goal[3][1] in handed and uses[value] == len(handed):
            late.append(label)
    return early, late


def with_late_tail(rng, module):
    """The module with a new block that returns its param, to which some returns lead instead, some of them behind a call."""
    function = rng.choice(module[1])
    name, params, result, blocks = function
    ends = [block[0] for block in blocks if block[3][0] == "return"]
    if not ends:
        return module
    goal, fresh = max(block[0] for block in blocks) + 1, max(defined_values(function), default=-1) + 1
    news = ((fresh, result),) if result is not None else ()
    if news and rng.random() < 0.3:
        news = ((fresh + 1, 8),) + news
    made = []
    for label, olds, ops, end in blocks:
        if label in ends and rng.random() < 0.8:
            fresh += 2
            value, operand = None if result is None else fresh + 100, end[1]
            if rng.random() < 0.7:
                ops += ((value, "call", (name,), tuple(("v", at) if rng.random() < 0.7 or kind == "ptr" else ("n", 1) for at, kind in enumerate(params))),)
                operand = None if value is None else ("v", value)
            args = (() if result is None else (operand,)) if len(news) < 2 else (rng.choice((("n", 3), operand)) if result == 8 else ("n", 3), operand)
            end = ("jump", (goal, args))
        made.append((label, olds, ops, end))
    last = (goal, news, (), ("return", None if result is None else ("v", news[-1][0])))
    later = (module[0], tuple((name, params, result, tuple(made) + (last,)) if other is function else other for other in module[1]))
    return later if module_fault(later) is None else module


class Tails(Passes, unittest.TestCase):
    def check(self, module):
        left, paper = tail_left(module), pass_tails(module)
        told = [(function[0], label) for function in module[1] for row in tails_by_words(function) for label in row]
        self.assertTrue(left in told if told else left is None, (left, told))
        self.assertEqual(left is None, paper == ())
        _, later = self.made(module, paper, ("twin", "join", "tail_loop"))
        late = sum(len(tails_by_words(function)[1]) for function in module[1])
        self.assertLessEqual(len(paper), 2 * late + len(module[1]))
        self.assertIsNone(tail_left(later))
        self.assertEqual([row for function in later[1] for row in tails_by_words(function) if row], [])
        self.assertEqual(pass_tails(later), ())
        return paper, later

    def told(self, body, head="define i8 @f(i8){ "):
        module = admitted_text(head + body + " } define i8 @main(){ b0(): return 0 }")
        paper, later = self.check(module)
        return tail_left(module), [step[0] for step in paper], flat(renumbered(later)).split(" define i8 @main")[0]

    def test_with_a_result(self):
        left, words, text = self.told("b0(): $1 = cmp eq i8 $0, 0 branch $1, b1(), b2() b1(): return 7 b2(): $2 = sub i8 $0, 1 $3 = call @f($2) return $3")
        self.assertEqual((left, words), (("f", 2), ["tail_loop"]))
        self.assertEqual(text, "define i8 @f(i8) { b0(): jump b1($0) b1(i8 $1): $2 = cmp eq i8 $1, 0 branch $2, b2(), b3() b2(): return 7 b3(): $3 = sub i8 $1, 1 jump b1($3) }")

    def test_without_a_result(self):
        left, words, _ = self.told("b0(): branch $0, b1(), b2() b1(): return b2(): print i1 $0 call @f(1) return", "define void @f(i1){ ")
        self.assertEqual((left, words), (("f", 2), ["tail_loop"]))
        left, words, _ = self.told("b0(): branch $0, b1(), b2() b1(): return b2(): print i1 $0 call @f(1) jump b1()", "define void @f(i1){ ")
        self.assertEqual((left, words), (("f", 2), ["twin", "join", "tail_loop"]))

    def test_late_ones(self):
        left, words, text = self.told("b0(): $1 = cmp eq i8 $0, 0 branch $1, b1(7), b2() b1(i8 $4): return $4 b2(): $2 = sub i8 $0, 1 $3 = call @f($2) jump b1($3)")
        self.assertEqual((left, words), (("f", 2), ["twin", "join", "tail_loop"]))
        self.assertEqual(text, "define i8 @f(i8) { b0(): jump b1($0) b1(i8 $1): $2 = cmp eq i8 $1, 0 branch $2, b2(7), b3() b2(i8 $3): return $3 b3(): $4 = sub i8 $1, 1 jump b1($4) }")

    def test_a_block_with_just_one_way(self):
        left, words, _ = self.told("b0(): $1 = cmp eq i8 $0, 0 branch $1, b3(), b2() b3(): return 9 b1(i8 $4): return $4 b2(): $2 = sub i8 $0, 1 $3 = call @f($2) jump b1($3)")
        self.assertEqual((left, words), (("f", 2), ["join", "tail_loop"]))

    def test_several_late_ones(self):
        _, words, _ = self.told("""b0(): $1 = cmp eq i8 $0, 0 branch $1, b2(), b3() b1(i8 $4, i8 $5): return $5 b2(): $2 = call @f(1) jump b1($2, $2) b3(): $3 = cmp eq i8 $0, 1 branch $3, b4(), b5()
            b4(): $6 = call @f(2) jump b1(0, $6) b5(): jump b1(4, 5)""")
        self.assertEqual(words, ["twin", "join", "twin", "join", "tail_loop"])
        _, words, _ = self.told("""b0(): $1 = cmp eq i8 $0, 0 branch $1, b2(), b3() b1(i8 $4, i8 $5): return $5 b2(): $2 = call @f(1) jump b1($2, $2) b3(): $6 = call @f(2) jump b1(0, $6)""")
        self.assertEqual(words, ["twin", "join", "join", "tail_loop"])

    def test_nearly_so(self):
        for body in ("b0(): $1 = call @f($0) print i8 $1 return $1", "b0(): $1 = call @f($0) return 7", "b0(): $1 = call @f($0) $2 = add i8 $1, 0 return $2", "b0(): $1 = call @g($0) return $1",
                     "b0(): $1 = call @f($0) print i8 0 return $1", "b0(): $1 = call @f($0) jump b1($1) b1(i8 $2): print i8 $2 return $2", "b0(): $1 = call @f($0) jump b1($1) b1(i8 $2): return $1",
                     "b0(): $1 = call @f($0) jump b1($1, 3) b1(i8 $2, i8 $3): return $3", "b0(): $1 = call @f($0) jump b1($1) b1(i8 $2): jump b2($2) b2(i8 $3): return $3",
                     "b0(): $1 = call @f($0) jump b1($1) b1(i8 $2): stop", "b0(): $1 = call @f($0) branch 1, b1($1), b1($1) b1(i8 $2): return $2",
                     "b0(): $9 = input i8 $1 = call @f($9) jump b1($1) b1(i8 $2): return $2 b4(): print i8 $1 stop", "b0(): $1 = call @f($0) jump b1($1) b1(i8 $2): return $2 b4(): print i8 $2 stop",
                     "b0(): return 0 b4(): $1 = call @f($0) jump b1($1) b1(i8 $2): return $2", "b0(): $1 = call @f($0) $2 = add i8 $0, 1 jump b1($1) b1(i8 $3): return $3"):
            module = admitted_text("define i8 @f(i8){ " + body + " } define i8 @g(i8){ b0(): return $0 } define i8 @main(){ b0(): return 0 }")
            self.assertEqual(self.check(module)[0], (), body)

    def test_unreached_blocks(self):
        """A tail call counts also in a block that is not reached; a late one does not."""
        left, words, _ = self.told("b0(): return 0 b4(): $1 = call @f($0) return $1")
        self.assertEqual((left, words), (("f", 4), ["tail_loop"]))

    def test_main(self):
        module = admitted_text("define i8 @main(){ b0(): $0 = input i8 $1 = cmp eq i8 $0, 0 branch $1, b1(), b2() b1(): return 5 b2(): print i8 $0 $2 = call @main() return $2 }")
        paper, later = self.check(module)
        self.assertEqual(paper, (("tail_loop", "main"),))
        self.same_ends(module, later, paper)

    def test_calls_behind_one_another(self):
        """Only the last call of a block is a tail call; the one before it is none when that has gone."""
        left, words, _ = self.told("b0(): $1 = call @f($0) $2 = call @f($1) return $2")
        self.assertEqual((left, words), (("f", 0), ["tail_loop"]))

    def test_drawn(self):
        late = early = 0
        for rng in sources(250):
            module = calling_module(rng) if rng.random() < 0.7 else any_module(rng)
            for _ in range(rng.randint(0, 3)):
                module = with_late_tail(rng, module)
            paper, later = self.check(module)
            late += sum(step[0] == "join" for step in paper)
            early += sum(step[0] == "tail_loop" for step in paper)
            self.same_ends(module, later, paper)
        self.assertGreater(late, 60)
        self.assertGreater(early, 100)

    def test_large(self):
        """Many late tail calls that all return by one block."""
        heads = "".join(f"b{at}(): ${at} = cmp eq i8 $0, {at} branch ${at}, b{at + 90}(), b{at + 1}() " for at in range(10, 99))
        rows = "".join(f"b{at}(): ${at} = sub i8 $0, 1 ${at + 200} = call @f(${at}) jump b199(${at + 200}) " for at in range(100, 189))
        module = admitted_text("define i8 @f(i8){ b0(): jump b10() " + heads + "b99(): jump b199(1) " + rows + "b199(i8 $199): return $199 } define i8 @main(){ b0(): return 0 }")
        self.assertEqual([step[0] for step in self.check(module)[0]], ["twin", "join"] * 89 + ["tail_loop"])


if __name__ == "__main__":
    unittest.main()
