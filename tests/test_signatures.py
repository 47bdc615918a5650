"""[72]: params and results."""

import unittest

from anypasses.callgoals import loose_signature
from anypasses.callpasses import pass_signatures
from anypasses.errors import InvalidStep
from anypasses.judge import apply_step
from anypasses.renumbering import renumbered
from anypasses.webs import reached_labels
from callers import calling_module
from making import sources
from passing import Passes, any_module, function_of, uses_of
from stepping import admitted_text, flat
from test_small_calls import calls_of

WORDS = ("param_drop", "constant_arg", "result_drop", "result_known")


def is_of_use(module, step):
    """The words of the document: a step that fits, and does something that is not done yet."""
    try:
        apply_step(module, step)
    except InvalidStep:
        return False
    if step[0] in ("param_drop", "result_drop"):
        return True
    name = step[1]
    if step[0] == "constant_arg":
        called = any(op[2][0] == name for function in module[1] if function[0] != name for _, _, op in calls_of(function))
        own = sum(op[2][0] == name and op[3][step[2]] == ("v", step[2]) for _, _, op in calls_of(function_of(module, name)))
        return called and uses_of(function_of(module, name)).get(step[2], 0) > own
    for function in module[1]:
        used = uses_of(function, reached_labels(function))
        if any(op[2][0] == name and op[0] in used for _, _, op in calls_of(function)):
            return True
    return False


def candidates(module):
    """Steps of [44] with whatever operands there are."""
    for name, params, _, blocks in module[1]:
        yield ("result_drop", name)
        numbers = [("n", number) for number in (0, 1, 3, 255)]
        returned = [block[3][1] for block in blocks if block[3][0] == "return" and block[3][1] is not None]
        for operand in set(numbers + returned + [("v", at) for at in range(len(params))]):
            yield ("result_known", name, operand)
        args = [arg for function in module[1] for _, _, op in calls_of(function) for arg in op[3]]
        for at in range(len(params)):
            yield ("param_drop", name, at)
            for operand in set(numbers + args + [("g", place[0]) for place in module[0]]):
                yield ("constant_arg", name, at, operand)


class Signatures(Passes, unittest.TestCase):
    def check(self, module):
        step, paper = loose_signature(module), pass_signatures(module)
        there = any(is_of_use(module, one) for one in candidates(module))
        self.assertEqual(step is not None, there, step)
        self.assertTrue(step is None or is_of_use(module, step), step)
        self.assertEqual(step is None, paper == ())
        row, later = self.made(module, paper, WORDS)
        for now, step in row:
            self.assertTrue(is_of_use(now, step), step)
        self.assertIsNone(loose_signature(later))
        self.assertFalse(any(is_of_use(later, one) for one in candidates(later)))
        self.assertEqual(pass_signatures(later), ())
        return paper, later

    def leads(self, text, later):
        paper, new = self.check(admitted_text(text))
        self.assertEqual(flat(renumbered(new)), flat(renumbered(admitted_text(later))))
        return [step[0] for step in paper]

    def stays(self, text):
        self.assertEqual(self.leads(text, text), [])

    def test_param_drop(self):
        self.assertEqual(self.leads("define i8 @f(i8, i8, i8){ b0(): $3 = input i8 $4 = add i8 $3, $1 return $4 } define i8 @main(){ b0(): $0 = input i8 $1 = call @f(1, $0, 3) return $1 }",
                                    "define i8 @f(i8){ b0(): $3 = input i8 $4 = add i8 $3, $0 return $4 } define i8 @main(){ b0(): $0 = input i8 $1 = call @f($0) return $1 }"), ["param_drop"] * 2)
        self.assertEqual(self.leads("define void @f(i8, i8){ b0(): print i8 $1 call @f($0, $1) return } define i8 @main(){ b0(): $0 = input i8 call @f(1, $0) return 0 }",
                                    "define void @f(i8){ b0(): print i8 $0 call @f($0) return } define i8 @main(){ b0(): $0 = input i8 call @f($0) return 0 }"), ["param_drop"])
        self.leads("define void @f(i8){ b0(): return } define i8 @main(){ b0(): return 0 }", "define void @f(){ b0(): return } define i8 @main(){ b0(): return 0 }")

    def test_params_that_change_places(self):
        self.stays("define void @f(i8, i8){ b0(): $2 = input i1 branch $2, b1(), b2() b1(): call @f($1, $0) return b2(): return } define i8 @main(){ b0(): $0 = input i8 call @f(1, $0) return 0 }")

    def test_constant_arg(self):
        self.assertEqual(self.leads("define i8 @f(i8){ b0(): print i8 $0 $1 = input i8 return $1 } define i8 @main(){ b0(): $0 = call @f(7) $1 = call @f(7) $2 = add i8 $0, $1 return $2 }",
                                    "define i8 @f(){ b0(): print i8 7 $1 = input i8 return $1 } define i8 @main(){ b0(): $0 = call @f() $1 = call @f() $2 = add i8 $0, $1 return $2 }"), ["constant_arg", "param_drop"])
        self.leads("@t = global i8 [1] define void @f(ptr, i8){ b0(): store i8 $1, $0 call @f($0, $1) return } define i8 @main(){ b0(): $0 = input i8 call @f(@t, $0) return 0 }",
                   "@t = global i8 [1] define void @f(i8){ b0(): store i8 $0, @t call @f($0) return } define i8 @main(){ b0(): $0 = input i8 call @f($0) return 0 }")

    def test_constants_of_no_use(self):
        """Calls that differ; calls of its own alone; a param that is only handed on to itself."""
        self.stays("define void @f(i8){ b0(): print i8 $0 return } define i8 @main(){ b0(): call @f(7) call @f(8) return 0 }")
        self.stays("define void @f(i8){ b0(): print i8 $0 return } define i8 @main(){ b0(): $0 = input i8 call @f($0) call @f($0) return 0 }")
        self.stays("define void @f(i8){ b0(): print i8 $0 return } define i8 @main(){ b0(): return 0 }")
        self.stays("define void @f(i8){ b0(): print i8 $0 call @f(7) return } define i8 @main(){ b0(): return 0 }")
        self.stays("define void @f(i8){ b0(): print i8 $0 call @f(7) return } define i8 @main(){ b0(): call @f(8) return 0 }")
        self.leads("define void @f(i8){ b0(): print i8 $0 call @f(7) return } define i8 @main(){ b0(): call @f(7) return 0 }", "define void @f(){ b0(): print i8 7 call @f() return } define i8 @main(){ b0(): call @f() return 0 }")

    def test_result_drop(self):
        self.assertEqual(self.leads("define i8 @f(){ b0(): $0 = input i8 return $0 } define i8 @main(){ b0(): $0 = call @f() return 0 }", "define void @f(){ b0(): $0 = input i8 return } define i8 @main(){ b0(): call @f() return 0 }"), ["result_drop"])
        self.assertEqual(self.leads("define i8 @f(){ b0(): $0 = call @f() return $0 } define i8 @main(){ b0(): $0 = call @f() return 0 }", "define void @f(){ b0(): call @f() return } define i8 @main(){ b0(): call @f() return 0 }"), ["result_drop"])
        self.leads("define i8 @f(){ b0(): $0 = input i8 return $0 } define i8 @main(){ b0(): return 0 }", "define void @f(){ b0(): $0 = input i8 return } define i8 @main(){ b0(): return 0 }")
        self.stays("define i8 @f(){ b0(): $0 = input i8 return $0 } define i8 @main(){ b0(): $0 = call @f() return $0 }")
        self.stays("define i8 @main(){ b0(): $0 = input i8 return $0 b1(): $1 = call @main() jump b1() }")

    def test_result_known(self):
        self.assertEqual(self.leads("define i8 @f(i8){ b0(): print i8 $0 return 3 } define i8 @main(){ b0(): $0 = input i8 $1 = call @f($0) print i8 $1 return $1 }",
                                    "define void @f(i8){ b0(): print i8 $0 return } define i8 @main(){ b0(): $0 = input i8 call @f($0) print i8 3 return 3 }"), ["result_known", "result_drop"])
        self.leads("define i8 @f(i8, i8){ b0(): print i8 $0 return $1 } define i8 @main(){ b0(): $0 = input i8 $1 = input i8 $2 = call @f($0, $1) $3 = call @f($1, $2) return $3 }",
                   "define void @f(i8){ b0(): print i8 $0 return } define i8 @main(){ b0(): $0 = input i8 $1 = input i8 call @f($0) call @f($1) return $1 }")

    def test_results_of_own_calls(self):
        """A function that returns its param, or what it tells itself for the same param; one that returns nothing else; one that never returns."""
        self.leads("define i8 @f(i8){ b0(): $1 = input i1 branch $1, b1(), b2() b1(): $2 = call @f($0) return $2 b2(): return $0 } define i8 @main(){ b0(): $0 = input i8 $1 = call @f($0) return $1 }",
                   "define void @f(){ b0(): $1 = input i1 branch $1, b1(), b2() b1(): call @f() return b2(): return } define i8 @main(){ b0(): $0 = input i8 call @f() return $0 }")
        self.stays("define i8 @f(i8){ b0(): $1 = input i1 branch $1, b1(), b2() b1(): $3 = add i8 $0, 1 $2 = call @f($3) return $2 b2(): return $0 } define i8 @main(){ b0(): $0 = input i8 $1 = call @f($0) return $1 }")
        for body in ("$0 = call @f() return $0", "print i8 1 stop"):
            paper, _ = self.check(admitted_text("define i8 @f(){ b0(): " + body + " } define i8 @main(){ b0(): $0 = call @f() return $0 }"))
            self.assertEqual([step[:2] for step in paper], [("result_known", "f"), ("result_drop", "f")])

    def test_results_of_no_use(self):
        self.stays("define i8 @f(){ b0(): $0 = input i1 branch $0, b1(), b2() b1(): return 1 b2(): return 2 } define i8 @main(){ b0(): $0 = call @f() return $0 }")
        self.leads("define i8 @main(){ b0(): $0 = call @main() branch 1, b1(), b2() b1(): return 4 b2(): print i8 $0 return 4 }", "define i8 @main(){ b0(): $0 = call @main() branch 1, b1(), b2() b1(): return 4 b2(): print i8 4 return 4 }")
        self.stays("define i8 @main(){ b0(): $0 = call @main() return 4 }")
        self.stays("define i8 @main(){ b0(): return 4 b1(): $0 = call @main() print i8 $0 jump b1() }")

    def test_one_behind_another(self):
        """A result that is known makes an arg constant; this makes a param drop, and so on."""
        words = self.leads("""define i8 @a(i8){ b0(): print i8 1 return $0 } define i8 @b(i8){ b0(): $1 = call @a($0) print i8 $1 return $1 } define i8 @main(){ b0(): $0 = call @b(5) $1 = call @b($0) return $1 }""",
                           """define void @a(){ b0(): print i8 1 return } define void @b(){ b0(): call @a() print i8 5 return } define i8 @main(){ b0(): call @b() call @b() return 5 }""")
        self.assertEqual(set(words), set(WORDS))

    def test_drawn(self):
        words = {}
        for rng in sources(150):
            module = calling_module(rng) if rng.random() < 0.8 else any_module(rng)
            paper, later = self.check(module)
            for step in paper:
                words[step[0]] = words.get(step[0], 0) + 1
            self.same_ends(module, later, paper)
        self.assertEqual(set(words), set(WORDS))
        self.assertGreater(min(words.values()), 10)

    def test_large(self):
        """Forty functions with twelve params each, which hand on what they are called with."""
        names = [f"f{at:02}" for at in range(39)]
        rows = []
        for at, name in enumerate(names):
            args = ", ".join(f"${k}" for k in range(12))
            ops = f"$12 = call @{names[at + 1]}({args}) " if at < 38 else ""
            rows.append(f"define i8 @{name}({', '.join(['i8'] * 12)}){{ b0(): {ops}print i8 $3 return ${at % 12} }} ")
        module = admitted_text("".join(rows) + "define i8 @main(){ b0(): $0 = input i8 $1 = call @f00(" + ", ".join("$0" if k == 3 else str(k) for k in range(12)) + ") return $1 }")
        paper = pass_signatures(module)
        _, later = self.made(module, paper, WORDS)
        self.assertIsNone(loose_signature(later))
        self.assertTrue(all(function[1:3] == ((8,), None) for function in later[1][:-1]))


if __name__ == "__main__":
    unittest.main()
