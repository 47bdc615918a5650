"""[53]: what is needed, what is dead; lean and neat modules."""

import unittest

from anypasses.cleaning import is_clean
from anypasses.judge import judged
from anypasses.machine import run_module
from anypasses.needs import dead_values, is_lean, needed_values, pass_dead
from anypasses.neatness import is_neat, pass_neat
from anypasses.cleaning import pass_clean
from anypasses.papers import is_paper
from anypasses.pureness import is_pure
from anypasses.runs import is_beginning
from anypasses.shapes import end_targets
from callers import calling_module
from lively import lively_module
from making import admitted_module, sources
from place_oracle import goes_to, inside
from step_oracle import targets
from stepping import INPUTS, admitted_text, flat

MAIN = " define i8 @main(){ b0(): return 0 }"
DIVISIONS = ("udiv", "sdiv", "urem", "srem")


def needed_by_words(module, function):
    needed = set()
    while True:
        more = set()
        for _, params, ops, end in function[3]:
            for op in ops:
                strict = op[1] in ("store", "print", "call") or op[1] == "bin" and op[2][0] in DIVISIONS and not is_pure(op)
                strict = strict or op[1] == "load" and not inside(module, function, goes_to(function, op))
                if strict or op[0] in needed and op[0] is not None:
                    more |= {arg[1] for arg in op[3] if arg[0] == "v"}
            if end[0] in ("branch", "return") and end[1] is not None and end[1][0] == "v":
                more.add(end[1][1])
            for label, args in targets(end):
                names = [value for value, _ in [block for block in function[3] if block[0] == label][0][1]]
                more |= {arg[1] for value, arg in zip(names, args) if value in needed and arg[0] == "v"}
        if more <= needed:
            return tuple(sorted(needed))
        needed |= more


def dead_by_words(module, function):
    needed = needed_by_words(module, function)
    dead = [value for block in function[3] for value, _ in block[1]]
    for block in function[3]:
        for op in block[2]:
            if op[1] == "alloca" or is_pure(op) or op[1] == "load" and inside(module, function, goes_to(function, op)):
                dead.append(op[0])
    return tuple(sorted(set(dead) - set(needed)))


def without_dead(module):
    """The module without what is dead in it, taken out at once."""
    functions = []
    for function in module[1]:
        dead = dead_by_words(module, function)
        kept = {label: [at for at, (value, _) in enumerate(params) if value not in dead] for label, params, _, _ in function[3]}
        blocks = []
        for label, params, ops, end in function[3]:
            for at, (other, args) in enumerate(end_targets(end)):
                place = 1 + at if end[0] == "jump" else 2 + at
                end = end[:place] + ((other, tuple(args[k] for k in kept[other])),) + end[place + 1:]
            blocks.append((label, tuple(params[at] for at in kept[label]), tuple(op for op in ops if op[0] is None or op[0] not in dead), end))
        functions.append(function[:3] + (tuple(blocks),))
    return module[0], tuple(functions)


class Needs(unittest.TestCase):
    def told(self, body, head="define i8 @f(i8, ptr)"):
        module = admitted_text("@t = global i8 [1, 2] " + head + "{ " + body + "}" + MAIN)
        function = module[1][0]
        self.assertEqual(needed_values(module, function), needed_by_words(module, function))
        self.assertEqual(dead_values(module, function), dead_by_words(module, function))
        return needed_values(module, function), dead_values(module, function)

    def test_the_example(self):
        spin = admitted_text("""define i8 @main(){b0(): $0=input i8 jump b1($0,0) b1(i8 $1,i8 $2): $3=add i8 $2,$1 jump b2() b2(): print i8 $1 branch 1,b1($1,$3),b1($1,$3)}""")
        self.assertEqual((needed_values(spin, spin[1][0]), dead_values(spin, spin[1][0])), ((0, 1), (2, 3)))
        self.assertEqual(pass_dead(spin), (("take_lot", "main", (2, 3)),))
        self.assertEqual((is_clean(spin), is_lean(spin), is_neat(spin)), (False, False, False))
        self.assertEqual(flat(judged(spin, pass_neat(spin))), "define i8 @main() { b0(): $0 = input i8 jump b1($0) b1(i8 $1): print i8 $1 jump b1($1) }")

    def test_what_is_needed(self):
        for body, needed, dead in (
                ("b0(): $2 = add i8 $0, 1 return $0", (0,), (2,)), ("b0(): $2 = add i8 $0, 1 return $2", (0, 2), ()), ("b0(): $2 = add i8 $0, 1 print i8 $2 return 0", (0, 2), ()),
                ("b0(): store i8 $0, $1 return 0", (0, 1), ()), ("b0(): $2 = at i8 $1, $0 store i8 3, $2 return 0", (0, 1, 2), ()), ("b0(): $2 = call @f($0, $1) return 0", (0, 1), ()),
                ("b0(): $2 = udiv i8 3, $0 return 0", (0,), ()), ("b0(): $2 = udiv i8 $0, 3 return 0", (), (2,)), ("b0(): $2 = udiv i8 $0, 0 return 0", (0,), ()),
                ("b0(): $2 = load i8 $1 return 0", (1,), ()), ("b0(): $2 = load i8 @t return 0", (), (2,)), ("b0(): $2 = at i8 @t, 2 $3 = load i8 $2 return 0", (2,), ()),
                ("b0(): $2 = at i8 @t, 1 $3 = load i8 $2 return 0", (), (2, 3)), ("b0(): $2 = at i8 @t, 1 $3 = load i16 $2 return 0", (2,), ()),
                ("b0(): $2 = at i8 @t, $0 $3 = load i8 $2 return 0", (0, 2), ()), ("b0(): $2 = alloca i8, 2 $3 = load i8 $2 return $3", (2, 3), ()),
                ("b0(): $2 = alloca i8, 2 store i8 1, $2 return 0", (2,), ()), ("b0(): $2 = alloca i8, 2 return 0", (), (2,)),
                ("b0(): $2 = input i8 $3 = input i8 return $2", (2,), ()), ("b0(): $2 = cmp eq i8 $0, 1 branch $2, b1(), b1() b1(): return 0", (0, 2), ()),
                ("b0(): $2 = cmp eq i8 $0, 1 branch 1, b1(), b1() b1(): return 0", (), (2,)), ("b0(): jump b1($0, $0) b1(i8 $2, i8 $3): return $2", (0, 2), (3,)),
                ("b0(): return 0 b1(): $2 = add i8 $0, 1 print i8 $2 stop", (0, 2), ()), ("b0(): return 0 b1(): $2 = add i8 $2, 1 stop", (), (2,)),
                ("b0(): return 0 b1(): $2 = at i8 $3, 1 $3 = at i8 $2, 1 $4 = load i8 $3 stop", (2, 3), ()), ("b0(): return 0 b1(): $2 = at i8 $3, 1 $3 = at i8 $2, 1 stop", (), (2, 3)),
                ("b0(): jump b1(1, 2) b1(i8 $2, i8 $3): branch 1, b1($3, $2), b2() b2(): return 0", (), (2, 3)),
                ("b0(): jump b1(1, 2) b1(i8 $2, i8 $3): branch 1, b1($3, $2), b2() b2(): return $3", (2, 3), ())):
            self.assertEqual(self.told(body), (needed, dead), body)

    def test_loads_between(self):
        """Dead loads, what uses them, and what only they need, go in such an order that each step fits."""
        module = admitted_text("""@t = global i8 [1, 2] define i8 @f(){ b0(): $0 = alloca i8, 3 $1 = at i8 $0, 1 $2 = at i8 $1, 1 $3 = load i8 $2 $4 = load i8 $1 $5 = add i8 $3, $4 $6 = at i8 @t, 1
            $7 = load i8 $6 $8 = at i8 $0, $7 jump b1($5, $7, $8) b1(i8 $9, i8 $10, ptr $11): return 3 }""" + MAIN)
        self.assertEqual(dead_values(module, module[1][0]), tuple(range(12)))
        paper = pass_dead(module)
        self.assertLessEqual(len(paper), 12)
        self.assertEqual(flat(judged(module, paper)), flat(admitted_text("@t = global i8 [1, 2] define i8 @f(){ b0(): jump b1() b1(): return 3 }" + MAIN)))

    def test_pass_dead_drawn(self):
        seen = loads = 0
        for rng in sources(300):
            module = rng.choice((lively_module, lively_module, calling_module, admitted_module))(rng)
            dead = 0
            for function in module[1]:
                self.assertEqual(needed_values(module, function), needed_by_words(module, function))
                self.assertEqual(dead_values(module, function), dead_by_words(module, function))
                dead += len(dead_values(module, function))
            paper = pass_dead(module)
            self.assertTrue(is_paper(paper))
            self.assertTrue({step[0] for step in paper} <= {"take_lot", "load_out"})
            self.assertLessEqual(len(paper), dead)
            for function in module[1]:
                self.assertLessEqual(len([step for step in paper if step[1] == function[0]]), len(dead_values(module, function)))
            later = judged(module, paper)
            self.assertEqual(later, without_dead(module))
            self.assertIs(is_lean(module), dead == 0)
            self.assertIs(is_lean(later), True)
            self.assertEqual(pass_dead(later), ())
            for old, new in zip(module[1], later[1]):
                self.assertEqual(needed_values(module, old), needed_values(later, new))
            seen += dead
            loads += sum(step[0] == "load_out" for step in paper)
            for inputs in INPUTS[:3]:
                for fuel in (5, 60):
                    self.assertTrue(is_beginning(run_module(module, inputs, fuel), run_module(later, inputs, fuel)))
        self.assertGreater(seen, 500)
        self.assertGreater(loads, 30)


class Neat(unittest.TestCase):
    def check(self, module):
        paper = pass_neat(module)
        self.assertTrue(is_paper(paper))
        self.assertTrue({step[0] for step in paper} <= {"pick", "drop", "join", "bend", "take_lot", "load_out"})
        later = judged(module, paper)
        self.assertIs(is_neat(later), True)
        self.assertTrue(is_clean(later) and is_lean(later))
        self.assertEqual((pass_neat(later), pass_clean(later), pass_dead(later)), ((), (), ()))
        self.assertIs(is_neat(module), paper == ())
        return later

    def test_one_for_the_other(self):
        """Without its dead ops a block is empty; without the block the branch is none; without it the condition is dead."""
        module = admitted_text("""define i8 @f(i8){ b0(): $1 = cmp eq i8 $0, 3 branch $1, b1(), b2() b1(): $2 = add i8 $0, 1 jump b3() b2(): $3 = add i8 $0, 2 jump b3() b3(): return $0 }""" + MAIN)
        self.assertEqual(flat(self.check(module)), flat(admitted_text("define i8 @f(i8){ b0(): return $0 }" + MAIN)))

    def test_either_alone(self):
        for body, clean, lean in (("b0(): return $0", True, True), ("b0(): jump b1() b1(): return $0", False, True), ("b0(): $1 = add i8 $0, 1 return $0", True, False),
                                  ("b0(): jump b1() b1(): $1 = add i8 $0, 1 return $0", False, False)):
            module = admitted_text("define i8 @f(i8){ " + body + "}" + MAIN)
            self.assertEqual((is_clean(module), is_lean(module), is_neat(module)), (clean, lean, clean and lean))
            self.assertEqual(pass_clean(module) == (), clean)
            self.assertEqual(pass_dead(module) == (), lean)
            self.check(module)

    def test_params_of_loops_that_serve_one_another(self):
        module = admitted_text("""define i8 @f(i8){ b0(): jump b1($0, 0, 1) b1(i8 $1, i8 $2, i8 $3): print i8 $1 $4 = add i8 $2, $3 $5 = cmp ult i8 $1, 9 branch $5, b1($1, $3, $4), b2($4)
            b2(i8 $6): return $1 }""" + MAIN)
        self.assertEqual(dead_values(module, module[1][0]), (2, 3, 4, 6))
        self.assertEqual(flat(self.check(module)), flat(admitted_text("""define i8 @f(i8){ b0(): jump b1($0) b1(i8 $1): print i8 $1 $5 = cmp ult i8 $1, 9 branch $5, b1($1), b2()
            b2(): return $1 }""" + MAIN)))

    def test_drawn(self):
        for rng in sources(150, seed=1):
            module = rng.choice((lively_module, lively_module, calling_module, admitted_module))(rng)
            later = self.check(module)
            for inputs in INPUTS[:3]:
                for fuel in (5, 60):
                    self.assertTrue(is_beginning(run_module(module, inputs, fuel), run_module(later, inputs, fuel)))

    def test_passes_in_any_order(self):
        for rng in sources(60, seed=2):
            module = rng.choice((lively_module, calling_module))(rng)
            now = module
            for told in rng.choices((pass_clean, pass_dead, pass_neat), k=5):
                now = judged(now, told(now))
                self.assertEqual(told(now), ())
            for inputs in INPUTS[:3]:
                self.assertTrue(is_beginning(run_module(module, inputs, 80), run_module(now, inputs, 80)))


if __name__ == "__main__":
    unittest.main()
