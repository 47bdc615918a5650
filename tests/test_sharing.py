"""[60], [61]: sharing, and combining and sharing by turns."""

import unittest

from anypasses.combining import is_combined, pass_combine
from anypasses.judge import judged
from anypasses.parts import operand_uses
from anypasses.renumbering import renumbered
from anypasses.shapes import end_targets
from anypasses.sharing import is_shared, is_tidy, pass_tidy, pass_values
from anypasses.standing import stands_at
from anypasses.webs import reached_labels
from making import sources
from passing import MAIN, Passes, any_module, uses_of
from stepping import admitted_text, flat
from test_combining import pure_ops
from test_weights import KINDS

HEAD = "define i8 @f(i8, i8, i1){ "


def has_alike(function):
    """Whether of two alike pure ops in reached blocks the value of one stands at the other."""
    sites = {op[0]: (block[0], at) for block in function[3] for at, op in enumerate(block[2])}
    ops = pure_ops(function)
    for one in ops:
        for other in ops:
            if one[0] != other[0] and one[1:] == other[1:] and one[0] in stands_at(function, *sites[other[0]]):
                return True
    return False


def is_spare_param(function, label, at, value):
    """Whether something else uses a param that is handed just one operand, which stands at the start, and not as a param there."""
    handed, own = set(), 0
    for block in function[3]:
        for other, args in end_targets(block[3]):
            if other == label:
                handed.add(args[at])
                own += args[at] == ("v", value)
    if uses_of(function).get(value, 0) == own or len(handed - {("v", value)}) != 1:
        return False
    word, thing = (handed - {("v", value)}).pop()
    params = [value for block in function[3] if block[0] == label for value, _ in block[1]]
    return word != "v" or thing not in params and thing in stands_at(function, label, 0)


def shared_by_words(module):
    for function in module[1]:
        reached = reached_labels(function)
        for label, params, _, _ in function[3]:
            if label in reached and any(is_spare_param(function, label, at, value) for at, (value, _) in enumerate(params)):
                return False
        if has_alike(function):
            return False
    return True


class Sharing(Passes, unittest.TestCase):
    def check(self, module):
        paper = pass_values(module)
        self.assertIs(is_shared(module), paper == ())
        _, later = self.made(module, paper, ("use", "take_out"))
        self.ordered(paper)
        self.assertIs(is_shared(later), True)
        self.assertEqual(pass_values(later), ())
        for old, new in zip(module[1], later[1]):
            reached = reached_labels(old)
            n = sum(op[1] in KINDS for block in old[3] if block[0] in reached for op in block[2])
            k = sum(len(block[1]) for block in old[3] if block[0] in reached)
            self.assertLessEqual(sum(step[1] == old[0] for step in paper), 2 * (n + k))
            self.assertEqual([block[:2] for block in old[3]], [block[:2] for block in new[3]])
        return paper, later

    def ordered(self, paper):
        for ahead, step in zip((None,) + paper, paper):
            if step[0] == "take_out":
                self.assertEqual((ahead[0], ahead[2], ahead[4][0]), ("use", step[2], "same"))
            else:
                self.assertIn(step[4][0], ("same", "block_param"))

    def leads(self, body, later, head=HEAD):
        paper, new = self.check(admitted_text(head + body + "}" + MAIN))
        self.assertEqual(flat(renumbered(new)), flat(renumbered(admitted_text(head + later + "}" + MAIN))))
        self.assertIs(shared_by_words(new), True)
        return [step[4][0] if step[0] == "use" else step[0] for step in paper]

    def stays(self, body, head=HEAD):
        self.assertEqual(self.leads(body, body, head), [])

    def test_alike_ops(self):
        words = self.leads("b0(): $3 = add i8 $0, $1 $4 = add i8 $0, $1 $5 = mul i8 $3, $4 return $5", "b0(): $3 = add i8 $0, $1 $5 = mul i8 $3, $3 return $5")
        self.assertEqual(words, ["same", "take_out"])
        self.leads("b0(): $3 = add i8 $0, 1 $4 = add i8 $0, 1 $5 = add i8 $0, 1 return $5", "b0(): $3 = add i8 $0, 1 return $3")
        self.leads("b0(): $3 = add i8 1, 1 $4 = add i8 1, 1 return 0", "b0(): $3 = add i8 1, 1 return 0")

    def test_alike_only_behind_others(self):
        self.leads("b0(): $3 = add i8 $0, 1 $4 = add i8 $0, 1 $5 = mul i8 $3, 3 $6 = mul i8 $4, 3 $7 = cmp eq i8 $5, $6 branch $7, b1(), b2() b1(): return $5 b2(): return $6",
                   "b0(): $3 = add i8 $0, 1 $5 = mul i8 $3, 3 $7 = cmp eq i8 $5, $5 branch $7, b1(), b2() b1(): return $5 b2(): return $5")

    def test_nearly_alike(self):
        for one, other in (("add i8 $0, $1", "add i8 $1, $0"), ("add i8 $0, 1", "sub i8 $0, 1"), ("cmp ult i8 $0, $1", "cmp ule i8 $0, $1"), ("zext i8 $0 to i16", "sext i8 $0 to i16"),
                           ("zext i8 $0 to i16", "zext i8 $0 to i32"), ("add i8 1, 2", "add i16 1, 2"), ("udiv i8 $0, $1", "udiv i8 $0, $1"), ("urem i8 3, 0", "urem i8 3, 0"),
                           ("input i8", "input i8"), ("alloca i8, 1", "alloca i8, 1"), ("load i8 @t", "load i8 @t"), ("call @f(1, 2, 0)", "call @f(1, 2, 0)")):
            self.stays(f"b0(): $3 = {one} $4 = {other} return 0", "@t = global i8 [1] " + HEAD)

    def test_all_pure_kinds(self):
        for op in ("udiv i8 $0, 3", "select i8 $2, $0, $1", "trunc i8 $0 to i1", "cmp slt i8 $0, $1", "at i8 @t, $0", "select ptr $2, @t, @t", "srem i8 $0, 9"):
            self.leads(f"b0(): $3 = {op} $4 = {op} return 0", f"b0(): $3 = {op} return 0", "@t = global i8 [1] " + HEAD)

    def test_blocks_that_dominate_and_such_as_do_not(self):
        self.leads("b0(): $3 = add i8 $0, 1 branch $2, b1(), b2() b1(): $4 = add i8 $0, 1 return $4 b2(): $5 = add i8 $0, 1 return $5",
                   "b0(): $3 = add i8 $0, 1 branch $2, b1(), b2() b1(): return $3 b2(): return $3")
        self.stays("b0(): branch $2, b1(), b2() b1(): $4 = add i8 $0, 1 return $4 b2(): $5 = add i8 $0, 1 return $5")
        self.stays("b0(): branch $2, b1(), b2() b1(): $4 = add i8 $0, 1 jump b2() b2(): $5 = add i8 $0, 1 return $5")
        self.leads("b0(): branch $2, b3(), b2() b2(): $5 = add i8 $0, 1 return $5 b3(): $4 = add i8 $0, 1 print i8 $4 jump b1() b1(): $6 = add i8 $0, 1 return $6",
                   "b0(): branch $2, b3(), b2() b2(): $5 = add i8 $0, 1 return $5 b3(): $4 = add i8 $0, 1 print i8 $4 jump b1() b1(): return $4")

    def test_unreached_blocks(self):
        """Their ops stay; their targets and uses count."""
        self.stays("b0(): $3 = add i8 $0, 1 return $3 b1(): $4 = add i8 $0, 1 $5 = add i8 $0, 1 jump b2($4) b2(i8 $6): print i8 $6 stop")
        self.stays("b0(): jump b1($0) b1(i8 $3): return $3 b2(): jump b1($1)")
        self.leads("b0(): jump b1($0) b1(i8 $3): return 0 b2(): print i8 $3 jump b1($0)", "b0(): jump b1($0) b1(i8 $3): return 0 b2(): print i8 $0 jump b1($0)")
        self.leads("b0(): jump b1($0) b1(i8 $3): return $3 b2(): jump b1($3)", "b0(): jump b1($0) b1(i8 $3): return $0 b2(): jump b1($0)")

    def test_params_that_are_handed_one_operand(self):
        for operand in ("7", "$0"):
            words = self.leads(f"b0(): branch $2, b1({operand}), b2() b2(): jump b1({operand}) b1(i8 $3): print i8 $3 return $3",
                               f"b0(): branch $2, b1({operand}), b2() b2(): jump b1({operand}) b1(i8 $3): print i8 {operand} return {operand}")
            self.assertEqual(words, ["block_param"])
        self.leads("b0(): jump b1(@t) b1(ptr $3): $4 = load i8 $3 return $4", "b0(): jump b1(@t) b1(ptr $3): $4 = load i8 @t return $4", "@t = global i8 [1] " + HEAD)
        self.stays("b0(): branch $2, b1(7), b1(8) b1(i8 $3): return $3")
        self.stays("b0(): branch $2, b1($0), b1(7) b1(i8 $3): return $3")
        self.stays("b0(): jump b1(7) b1(i8 $3): return 7")

    def test_params_that_are_handed_themselves(self):
        self.leads("b0(): jump b1($0) b1(i8 $3): print i8 $3 branch $2, b1($3), b2() b2(): return 0", "b0(): jump b1($0) b1(i8 $3): print i8 $0 branch $2, b1($0), b2() b2(): return 0")
        self.stays("b0(): jump b1($0) b1(i8 $3): branch $2, b1($3), b2() b2(): return 0")
        self.leads("b0(): jump b1($0, 4) b1(i8 $3, i8 $4): branch $2, b1($3, $3), b2() b2(): return 0", "b0(): jump b1($0, 4) b1(i8 $3, i8 $4): branch $2, b1($0, $0), b2() b2(): return 0")
        self.stays("b0(): jump b1($0, $1) b1(i8 $3, i8 $4): print i8 $3 branch $2, b1($4, $3), b2() b2(): return $4")

    def test_params_that_hand_on_to_one_another(self):
        self.leads("b0(): jump b1($0) b1(i8 $3): jump b2($3) b2(i8 $4): print i8 $4 branch $2, b1($4), b3($4) b3(i8 $5): return $5",
                   "b0(): jump b1($0) b1(i8 $3): jump b2($0) b2(i8 $4): print i8 $0 branch $2, b1($0), b3($0) b3(i8 $5): return $0")

    def test_values_that_do_not_stand_at_the_start(self):
        """Behind the ways that hand it on, a value of a block that is always come from stands; one made there does not count."""
        self.leads("b0(): $3 = input i8 jump b1($3) b1(i8 $4): return $4", "b0(): $3 = input i8 jump b1($3) b1(i8 $4): return $3")
        self.stays("b0(): jump b1($0) b1(i8 $3): $4 = add i8 $3, 1 branch $2, b1($4), b2() b2(): return $3")
        self.stays("b0(): return 0 b1(i8 $3, i8 $4): print i8 $3 jump b1($4, $4)")
        self.stays("b0(): return 0 b1(i8 $3): $4 = add i8 $3, 1 print i8 $3 jump b1($4)")

    def test_ops_that_params_make_alike(self):
        words = self.leads("b0(): $3 = add i8 $0, 1 jump b1($0) b1(i8 $4): $5 = add i8 $4, 1 branch $2, b1($0), b2($5) b2(i8 $6): return $6",
                           "b0(): $3 = add i8 $0, 1 jump b1($0) b1(i8 $4): branch $2, b1($0), b2($3) b2(i8 $6): return $3")
        self.assertEqual(sorted(words), ["block_param", "block_param", "same", "take_out"])

    def test_params_that_alike_ops_make_one(self):
        self.leads("b0(): $3 = add i8 $0, 1 branch $2, b1($3), b2() b2(): $4 = add i8 $0, 1 jump b1($4) b1(i8 $5): return $5",
                   "b0(): $3 = add i8 $0, 1 branch $2, b1($3), b2() b2(): jump b1($3) b1(i8 $5): return $3")
        self.leads("b0(): jump b1($0) b1(i8 $3): $4 = add i8 $3, 0 print i8 $3 $5 = add i8 $3, 0 branch $2, b1($4), b2($5) b2(i8 $6): return $6",
                   "b0(): jump b1($0) b1(i8 $3): $4 = add i8 $3, 0 print i8 $3 branch $2, b1($4), b2($4) b2(i8 $6): return $4")

    def test_drawn(self):
        many = {}
        for rng in sources(150):
            module = any_module(rng)
            self.assertIs(is_shared(module), shared_by_words(module))
            paper, later = self.check(module)
            self.assertIs(shared_by_words(later), True)
            for step in paper:
                word = step[4][0] if step[0] == "use" else step[0]
                many[word] = many.get(word, 0) + 1
            self.same_ends(module, later, paper)
        self.assertGreater(min(many["same"], many["block_param"]), 30)

    def test_large(self):
        ops = " ".join(f"${at} = add i8 ${max(0, at - 2 - at % 2) if at > 4 else 0}, {at // 4}" for at in range(3, 1000))
        module = admitted_text("define i8 @f(i8, i8, i8){ b0(): " + ops + " return $999 }" + MAIN)
        paper = pass_values(module)
        later = judged(module, paper)
        self.assertIs(is_shared(later), True)
        self.assertGreater(len(paper), 300)


class Tidy(Passes, unittest.TestCase):
    def check(self, module):
        paper = pass_tidy(module)
        self.assertIs(is_tidy(module), is_combined(module) and is_shared(module))
        self.assertIs(is_tidy(module), paper == ())
        _, later = self.made(module, paper, ("put_in", "take_out", "use"))
        self.assertIs(is_tidy(later), True)
        self.assertEqual((pass_tidy(later), pass_combine(later), pass_values(later)), ((), (), ()))
        self.by_turns(module, paper)
        return paper, later

    def by_turns(self, module, paper):
        """The paper is one of [59], one of [60], and so on, perhaps empty ones."""
        now, left, turn = module, paper, 0
        while left:
            told = (pass_combine, pass_values)[turn % 2](now)
            self.assertEqual(left[:len(told)], told)
            now, left, turn = judged(now, told), left[len(told):], turn + 1
            self.assertLess(turn, 100)

    def test_one_for_the_other(self):
        """Shared values make a rule fit; combined ones make ops alike; params that fall make both."""
        module = admitted_text(HEAD + """b0(): $3 = add i8 $0, 1 $4 = add i8 1, $0 $5 = sub i8 $3, $4 jump b1($5, $3) b1(i8 $6, i8 $7): $8 = or i8 $6, 3 print i8 $8
            $9 = cmp ult i8 $7, 9 branch $9, b1($6, $8), b2() b2(): return $6 }""" + MAIN)
        _, later = self.check(module)
        self.assertEqual(flat(renumbered(later)), flat(renumbered(admitted_text(HEAD + """b0(): $3 = add i8 $0, 1 jump b1(0, $3) b1(i8 $6, i8 $7): print i8 3
            $9 = cmp ult i8 $7, 9 branch $9, b1(0, 3), b2() b2(): return 0 }""" + MAIN))))

    def test_either_alone(self):
        for body, combined, shared in (("b0(): return $0", True, True), ("b0(): $3 = add i8 $0, 0 return $3", False, True), ("b0(): jump b1(7) b1(i8 $3): return $3", True, False),
                                       ("b0(): $3 = add i8 1, 1 jump b1($3) b1(i8 $4): return $4", False, False)):
            module = admitted_text(HEAD + body + "}" + MAIN)
            self.assertEqual((is_combined(module), is_shared(module), is_tidy(module)), (combined, shared, combined and shared))
            self.check(module)

    def test_drawn(self):
        for rng in sources(100, seed=1):
            module = any_module(rng)
            paper, later = self.check(module)
            self.same_ends(module, later, paper)
            for function in later[1]:
                self.assertEqual(len(set(operand_uses(function))), len(operand_uses(function)))


if __name__ == "__main__":
    unittest.main()
