"""[73]: what nobody needs."""

import unittest
from itertools import combinations

from anypasses.callees import quiet_fuel
from anypasses.callgoals import unused_thing
from anypasses.callpasses import pass_unused
from anypasses.renumbering import renumbered
from callers import calling_module
from loose_oracle import fits
from making import sources
from passing import Passes, any_module
from stepping import admitted_text, flat
from test_small_calls import calls_of

WORDS = ("call_out", "functions_out", "globals_out")


def unused_by_trying(module):
    """Whether any such step fits."""
    if any(fits(module, ("call_out", function[0], label, at)) for function in module[1] for label, at, _ in calls_of(function)):
        return True
    names = [function[0] for function in module[1] if function[0] != "main"]
    if any(fits(module, ("functions_out", row)) for count in range(1, len(names) + 1) for row in combinations(names, count)):
        return True
    return any(fits(module, ("globals_out", (place[0],))) for place in module[0])


class Unused(Passes, unittest.TestCase):
    def check(self, module, few=True):
        step, paper = unused_thing(module), pass_unused(module)
        self.assertTrue(step is None or fits(module, step), step)
        self.assertEqual(step is None, paper == ())
        _, later = self.made(module, paper, WORDS)
        self.assertLessEqual(len(paper), sum(len(calls_of(function)) for function in module[1]) + 2)
        self.assertIsNone(unused_thing(later))
        if few:
            self.assertEqual(step is not None, unused_by_trying(module))
            self.assertFalse(unused_by_trying(later))
        self.assertEqual(pass_unused(later), ())
        functions = {function[0]: function for function in later[1]}
        known = {"main"}
        for _ in functions:
            known |= {op[2][0] for name in known for _, _, op in calls_of(functions[name])}
        self.assertEqual(known, set(functions))
        return paper, later

    def leads(self, text, later):
        paper, new = self.check(admitted_text(text))
        self.assertEqual(flat(renumbered(new)), flat(renumbered(admitted_text(later))))
        return [step[0] for step in paper]

    def stays(self, text):
        self.assertEqual(self.leads(text, text), [])

    def test_each_kind(self):
        self.assertEqual(self.leads("define i8 @f(){ b0(): return 1 } define i8 @main(){ b0(): $0 = call @f() return 0 }", "define i8 @main(){ b0(): return 0 }"), ["call_out", "functions_out"])
        self.assertEqual(self.leads("define i8 @f(){ b0(): return 1 } define i8 @main(){ b0(): return 0 }", "define i8 @main(){ b0(): return 0 }"), ["functions_out"])
        self.assertEqual(self.leads("@t = global i8 [1] define i8 @main(){ b0(): return 0 }", "define i8 @main(){ b0(): return 0 }"), ["globals_out"])
        self.stays("@t = global i8 [1] define i8 @f(){ b0(): $0 = load i8 @t return $0 } define i8 @main(){ b0(): $0 = call @f() return $0 }")
        self.stays("define i8 @main(){ b0(): return 0 }")

    def test_calls_that_are_needed(self):
        for body in ("print i8 1 return 0", "$0 = input i8 return $0", "stop", "$0 = udiv i8 1, 0 return $0", "jump b1() b1(): jump b1()", "$0 = call @f() return 1", "return 0 b1(): jump b1()"):
            self.stays(f"define i8 @f(){{ b0(): {body} }} define i8 @main(){{ b0(): $0 = call @f() return 0 }}")
        self.stays("define i8 @f(){ b0(): return 1 } define i8 @main(){ b0(): $0 = call @f() return $0 }")
        self.stays("define i8 @main(){ b0(): return 1 b1(): $0 = call @main() print i8 $0 stop }")

    def test_one_behind_another(self):
        """A call that goes makes others go, those functions, and then their globals."""
        words = self.leads("""@t = global i8 [1] @u = global i8 [2] define i8 @a(i8){ b0(): $1 = call @b($0) return $1 } define i8 @b(i8){ b0(): $1 = at i8 @t, $0 return $0 }
            define i8 @main(){ b0(): $0 = call @b(1) $1 = call @a($0) $2 = call @b($1) $3 = call @a($2) jump b1(3) b1(i8 $4): $5 = load i8 @u return 0 }""",
                           "@u = global i8 [2] define i8 @main(){ b0(): jump b1(3) b1(i8 $4): $5 = load i8 @u return 0 }")
        self.assertEqual(words, ["call_out"] * 4 + ["functions_out", "globals_out"])

    def test_over_blocks_in_any_order(self):
        words = self.leads("""define i8 @f(i8){ b0(): return $0 } define i8 @main(){ b0(): $0 = call @f(1) jump b5() b1(): $2 = call @f($1) return 0 b5(): $1 = call @f($0) jump b1() b6(): $4 = call @f($2) stop }""",
                           "define i8 @main(){ b0(): jump b5() b1(): return 0 b5(): jump b1() b6(): stop }")
        self.assertEqual(words, ["call_out"] * 4 + ["functions_out"])

    def test_rings_of_functions(self):
        """Functions that only call one another go together."""
        self.assertEqual(self.leads("define void @a(){ b0(): call @b() return } define void @b(){ b0(): call @a() call @c() return } define void @c(){ b0(): print i8 1 return } define i8 @main(){ b0(): call @c() return 0 }",
                                    "define void @c(){ b0(): print i8 1 return } define i8 @main(){ b0(): call @c() return 0 }"), ["functions_out"])
        self.stays("define void @a(){ b0(): call @b() return } define void @b(){ b0(): call @a() return } define i8 @main(){ b0(): call @b() return 0 }")

    def test_calls_in_functions_that_go(self):
        """Their calls need not go first."""
        paper, _ = self.check(admitted_text("define void @a(){ b0(): call @b() call @b() return } define void @b(){ b0(): return } define i8 @main(){ b0(): return 0 }"))
        self.assertEqual(paper, (("functions_out", ("a", "b")),))

    def test_globals_of_functions_that_go(self):
        self.assertEqual(self.leads("@t = global i8 [1] define void @a(){ b0(): store i8 1, @t return } define i8 @main(){ b0(): return 0 }", "define i8 @main(){ b0(): return 0 }"), ["functions_out", "globals_out"])

    def test_drawn(self):
        words = {}
        for rng in sources(250):
            module = calling_module(rng) if rng.random() < 0.8 else any_module(rng)
            paper, later = self.check(module)
            for step in paper:
                words[step[0]] = words.get(step[0], 0) + 1
            self.same_ends(module, later, paper)
        self.assertEqual(set(words), set(WORDS))
        self.assertGreater(min(words.values()), 5)

    def test_large(self):
        rows = "".join(f"define i8 @f{at:02}(i8){{ b0(): $1 = call @f{at + 1:02}($0) $2 = call @f{at + 1:02}($1) return $2 }} " for at in range(30)) + "define i8 @f30(i8){ b0(): return $0 } "
        ops = " ".join(f"${at + 1} = call @f{at % 31:02}(${at})" for at in range(1500))
        module = admitted_text(rows + "define i8 @main(){ b0(): $0 = input i8 " + ops + " return $700 }")
        self.assertEqual(dict(quiet_fuel(module))["f29"], 5)
        paper = pass_unused(module)
        self.assertEqual(len(paper), 800)


if __name__ == "__main__":
    unittest.main()
