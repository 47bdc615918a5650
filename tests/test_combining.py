"""[59]: combining."""

import unittest

from anypasses.combining import is_combined, pass_combine
from anypasses.judge import judged
from anypasses.pureness import is_pure
from anypasses.renumbering import renumbered
from anypasses.reading import read_module
from anypasses.rules import RULES, rule_letters
from anypasses.webs import reached_labels
from anypasses.weights import weight
from making import sources
from passing import MAIN, Passes, any_module, function_of
from stepping import admitted_text, flat
from test_rules import Maker, tree
from test_weights import KINDS

WORDS = ("put_in", "take_out", "use")


def pure_ops(function):
    reached = reached_labels(function)
    return [op for block in function[3] if block[0] in reached for op in block[2] if is_pure(op)]


def combined_by_words(module):
    for function in module[1]:
        for op in pure_ops(function):
            if all(arg[0] == "n" for arg in op[3]) or any(rule_letters(module, function, k, op[0]) is not None for k in range(len(RULES))):
                return False
    return True


class Combining(Passes, unittest.TestCase):
    def check(self, module):
        paper = pass_combine(module)
        self.assertIs(is_combined(module), paper == ())
        row, later = self.made(module, paper, WORDS)
        self.ordered(paper)
        self.assertIs(is_combined(later), True)
        self.assertEqual(pass_combine(later), ())
        for old, new in zip(module[1], later[1]):
            self.less(old, new, [step for step in paper if step[1] == old[0]])
        return paper, later

    def ordered(self, paper):
        """Each "put_in" is used right behind; only what was replaced right ahead is taken out."""
        for ahead, step in zip((None,) + paper, paper + (None,)):
            if ahead is not None and ahead[0] == "put_in":
                self.assertEqual((step[0], step[3]), ("use", ("v", ahead[4][0])))
            if step is not None and step[0] == "take_out":
                self.assertEqual((ahead[0], ahead[2]), ("use", step[2]))
            if step is not None and step[0] == "use":
                self.assertIn(step[4][0], ("fold", "rule"))

    def less(self, old, new, steps):
        """The weight falls, or nothing changes; what is not weighed stays; there are not too many steps."""
        self.assertTrue(old == new or weight(new) < weight(old))
        self.assertEqual(old == new, steps == [])
        n = sum(op[1] in KINDS for op in [op for block in old[3] if block[0] in reached_labels(old) for op in block[2]])
        self.assertLessEqual(len(steps), 3 * (10 * n + 1) * (n * n + 1))
        self.assertEqual([block[:2] for block in old[3]], [block[:2] for block in new[3]])
        reached = reached_labels(old)
        for one, other in zip(old[3], new[3]):
            kept = [[op[:3] for op in block[2] if op[1] not in KINDS or block[0] not in reached] for block in (one, other)]
            self.assertEqual(kept[0], kept[1])

    def leads(self, body, later, head="define i8 @f(i8, i8, i1){ "):
        paper, new = self.check(admitted_text(head + body + "}" + MAIN))
        wanted = admitted_text(head + later + "}" + MAIN)
        self.assertEqual(flat(renumbered(new)), flat(renumbered(wanted)))
        self.assertIs(combined_by_words(new), True)
        return paper

    def test_combined_or_not(self):
        for body, told in (
                ("b0(): return $0", True), ("b0(): $3 = add i8 $0, $1 return $3", True), ("b0(): $3 = add i8 $0, 7 return $3", True), ("b0(): $3 = add i8 7, $0 return $3", False),
                ("b0(): $3 = add i8 7, 8 return $3", False), ("b0(): $3 = add i8 7, 8 return 0", False), ("b0(): $3 = add i8 $0, 0 return 0", False), ("b0(): $3 = sub i8 7, $0 return $3", True),
                ("b0(): $3 = sub i8 $0, 7 return $3", False), ("b0(): $3 = mul i8 $0, 7 return $3", True), ("b0(): $3 = mul i8 $0, 8 return $3", False), ("b0(): $3 = udiv i8 $0, 7 return $3", True),
                ("b0(): $3 = udiv i8 $0, 8 return $3", False), ("b0(): $3 = udiv i8 $0, 0 return $3", True), ("b0(): $3 = udiv i8 5, 0 return $3", True), ("b0(): $3 = udiv i8 5, 3 return $3", False),
                ("b0(): $3 = sdiv i8 $0, 8 return $3", True), ("b0(): $3 = udiv i8 $0, $0 return $3", True), ("b0(): return 0 b1(): $3 = add i8 7, 8 return $3", True)):
            module = admitted_text("define i8 @f(i8, i8, i1){ " + body + "}" + MAIN)
            self.assertIs(is_combined(module), told, body)
            self.assertIs(combined_by_words(module), told, body)
            self.check(module)

    def test_by_hand(self):
        self.leads("b0(): $3 = add i8 $0, 0 print i8 $3 return $3", "b0(): print i8 $0 return $0")
        self.leads("b0(): $3 = sub i8 $0, 7 return $3", "b0(): $4 = add i8 $0, 249 return $4")
        self.leads("b0(): $3 = mul i8 8, $0 return $3", "b0(): $5 = shl i8 $0, 3 return $5")
        self.leads("b0(): $3 = urem i8 $0, 16 jump b1($3) b1(i8 $4): return $4", "b0(): $5 = and i8 $0, 15 jump b1($5) b1(i8 $4): return $4")
        self.leads("b0(): $3 = cmp ult i8 $0, $1 $4 = xor i1 1, $3 branch $4, b1(), b2() b1(): return 1 b2(): return 2",
                   "b0(): $3 = cmp ult i8 $0, $1 $6 = cmp ule i8 $1, $0 branch $6, b1(), b2() b1(): return 1 b2(): return 2")

    def test_unused_values_too(self):
        self.leads("b0(): $3 = add i8 1, 2 $4 = add i8 $3, $3 return 0", "b0(): return 0")

    def test_steps_of_one_rewriting(self):
        paper = self.leads("b0(): print i8 $0 $3 = sub i8 $0, 7 return $3", "b0(): print i8 $0 $4 = add i8 $0, 249 return $4")
        self.assertEqual(paper, (("put_in", "f", 0, 1, (4, "bin", ("add", 8), (("v", 0), ("n", 249)))), ("use", "f", 3, ("v", 4), ("rule", 37)), ("take_out", "f", 3)))
        self.assertEqual(self.leads("b0(): $3 = xor i8 $0, $0 return $3", "b0(): return 0"), (("use", "f", 3, ("n", 0), ("rule", 14)), ("take_out", "f", 3)))
        self.assertEqual(self.leads("b0(): $3 = xor i8 6, 5 return $3", "b0(): return 3"), (("use", "f", 3, ("n", 3), ("fold",)), ("take_out", "f", 3)))

    def test_numbers_first_again(self):
        """What becomes a number may stand first, so that its ops are turned."""
        self.leads("b0(): $3 = add i8 2, 3 $4 = mul i8 $3, $0 $5 = cmp eq i8 $3, $4 branch $5, b1(), b2() b1(): return 1 b2(): return 2",
                   "b0(): $6 = mul i8 $0, 5 $7 = cmp eq i8 $6, 5 branch $7, b1(), b2() b1(): return 1 b2(): return 2")

    def test_rows_of_rules(self):
        self.leads("b0(): $3 = sub i8 $0, 1 $4 = sub i8 $3, 2 $5 = add i8 3, $4 $6 = add i8 $5, 4 return $6", "b0(): $7 = add i8 $0, 255 $8 = add i8 $0, 253 $10 = add i8 $0, 4 return $10")
        rows = " ".join(f"${at} = add i8 ${at - 1}, 1" for at in range(4, 400))
        _, later = self.check(admitted_text("define i8 @f(i8, i8, i1){ b0(): $3 = add i8 $0, 1 " + rows + " return $399 }" + MAIN))
        self.assertEqual(max(sum(1 for arg in op[3] if arg == ("v", 0)) for op in later[1][0][3][0][2]), 1)
        self.assertTrue(all(op[3][0] == ("v", 0) for op in later[1][0][3][0][2]))

    def test_over_blocks_in_any_order(self):
        self.leads("b0(): $3 = add i8 $0, 1 jump b3() b1(): $5 = add i8 $4, 3 return $5 b3(): $4 = add i8 $3, 2 jump b1()",
                   "b0(): $3 = add i8 $0, 1 jump b3() b1(): $7 = add i8 $0, 6 return $7 b3(): $6 = add i8 $0, 3 jump b1()")

    def test_divisions(self):
        """A division is done only when its divisor is another number than 0."""
        self.leads("b0(): $3 = add i8 3, 5 $4 = udiv i8 $0, $3 $5 = sub i8 3, 3 $6 = urem i8 $0, $5 return $4", "b0(): $7 = lshr i8 $0, 3 $6 = urem i8 $0, 0 return $7")

    def test_unreached_blocks_have_their_operands_changed(self):
        self.leads("b0(): $3 = add i8 1, 2 return $3 b1(): $4 = add i8 $3, 0 $5 = add i8 $4, $3 jump b1()", "b0(): return 3 b1(): $4 = add i8 3, 0 $5 = add i8 $4, 3 jump b1()")

    def test_pointers(self):
        """A select of pointers falls by the rules that tell letters alone."""
        head = "@t = global i8 [1, 2] define i8 @f(ptr, i1){ "
        self.leads("b0(): $2 = select ptr $1, $0, $0 $3 = select ptr 1, @t, $2 $4 = at i8 $3, 0 $5 = load i8 $4 return $5", "b0(): $4 = at i8 @t, 0 $5 = load i8 $4 return $5", head)

    def test_new_values_are_new(self):
        """Also where a function has the greatest value there may be, new ones are below 2 ** 63."""
        great = 2 ** 63 - 1
        _, later = self.check(admitted_text("define i8 @f(i8){ b0(): $" + str(great) + " = sub i8 $0, 1 $3 = sub i8 $" + str(great) + ", $0 return $3 }" + MAIN))
        self.assertEqual([op[0] for op in later[1][0][3][0][2]], [1, 3])

    def test_each_rule(self):
        """Each rule alone on top, with letters of all sorts, also such as are left sides themselves."""
        seen = {}
        for rng in sources(30):
            for k, (left, _) in enumerate(RULES):
                maker = Maker(rng)
                for kind in rng.sample([8, 1, 16, 32, 64, "ptr"], 6):
                    if maker.build(tree(left), kind, {}) is not None:
                        break
                module = maker.module()
                used = {step[4][1] for step in self.check(module)[0] if step[0] == "use" and step[4][0] == "rule"}
                for rule in used:
                    seen[rule] = seen.get(rule, 0) + 1
        self.assertEqual(set(seen), set(range(len(RULES))))

    def test_rules_behind_one_another(self):
        """Left sides built on the values of others, and run: what is printed stays."""
        for rng in sources(60, seed=1):
            maker = Maker(rng)
            for _ in range(12):
                maker.build(tree(rng.choice(RULES)[0]), rng.choice([8, 8, 1, 16]), {})
            ops, _ = maker.module()[1][0][3][0][2:]
            prints = tuple((None, "print", (kind,), (("v", value),)) for value, kind in enumerate(maker.kinds) if kind != "ptr" and value > 8)
            params = tuple(maker.kinds[:9])
            inputs = tuple((at, "input", (kind,), ()) for at, kind in enumerate(params) if kind != "ptr")
            args = tuple(("g", "t") if kind == "ptr" else ("v", at) for at, kind in enumerate(params))
            main = ("main", (), 8, ((0, (), inputs + ((None, "call", ("f",), args),), ("return", ("n", 0))),))
            module = ((("t", 8, 1, (7,)),), (("f", params, None, ((0, (), ops + prints, ("return", None)),)), main))
            paper, later = self.check(module)
            self.same_ends(module, later, paper, 200)

    def test_drawn(self):
        many = 0
        for rng in sources(120, seed=2):
            module = any_module(rng)
            paper, later = self.check(module)
            many += len(paper)
            self.same_ends(module, later, paper)
            if sum(len(pure_ops(function)) for function in module[1]) < 20:
                self.assertIs(is_combined(module), combined_by_words(module))
                self.assertIs(combined_by_words(later), True)
        self.assertGreater(many, 1000)

    def test_each_function(self):
        module = admitted_text("define i8 @f(){ b0(): $0 = add i8 1, 1 return $0 } define i8 @g(i8){ b0(): $1 = add i8 $0, 0 return $1 } define i8 @main(){ b0(): return 0 }")
        paper, _ = self.check(module)
        self.assertEqual([step[:3] for step in paper], [("use", "f", 0), ("take_out", "f", 0), ("use", "g", 1), ("take_out", "g", 1)])
        self.assertEqual(function_of(judged(module, paper), "g")[3][0][3], ("return", ("v", 0)))

    def test_large(self):
        rows = " ".join(f"${at} = {('mul', 'sub', 'and', 'xor')[at % 4]} i8 ${max(0, at - 1 - at % 3)}, {at % 9}" for at in range(3, 1900))
        module = read_module("define i8 @f(i8, i8, i8){ b0(): " + rows + " return $1899 }" + MAIN)
        self.assertFalse(is_combined(module))
        paper = pass_combine(module)
        self.assertGreater(len(paper), 2000)
        self.ordered(paper)


if __name__ == "__main__":
    unittest.main()
