"""[35] to [38]: steps on blocks and on the ways between them."""

import unittest

from anypasses.flow_steps import FLOW_WORDS, apply_flow
from anypasses.machine import run_module
from anypasses.standing import standing
from anypasses.webs import reached_labels
from lively import lively_module
from making import sources
from step_oracle import told_flow
from stepping import INPUTS, Steps, admitted_text, outcome
from webs_oracle import Web

MAIN = " define i8 @main(){ b0(): return 0 }"
LOOP = """define i8 @main(){b0(): $0=input i8 jump b1($0) b1(i8 $1): $2=cmp ult i8 $1,9 print i8 $1 branch $2,b2(),b3() b2(): jump b1($0) b3(): return 7}"""


class FlowCase(unittest.TestCase, Steps):
    apply = staticmethod(apply_flow)


class FlowSteps(FlowCase):
    def test_words(self):
        self.assertEqual(FLOW_WORDS, ("bend", "carry", "drop", "join", "land", "param_out", "pick", "twin"))

    def test_junk(self):
        text = "define i8 @f(i1){ b0(): branch 1, b3(), b3() b3(): jump b5(4) b5(i8 $1): branch $0, b5($1), b6() b6(): return $1 b7(): stop }" + MAIN
        self.junk(text, ("pick", "f", 0))
        self.junk(text, ("drop", "f"))
        self.junk(text, ("bend", "f", 0, 1))
        self.junk(text, ("land", "f", 5, ((3, 0),)))
        self.junk(text.replace("return $1", "return 0"), ("twin", "f", 5, ((3, 0),)))
        self.junk(text, ("carry", "f", (6,), 1))
        self.junk(text, ("land", "f", 5, ((3, 0), (5, 0))))
        self.junk(text.replace("return $1", "return 0"), ("param_out", "f", 5, 0))
        self.junk("define i8 @f(){ b0(): jump b3() b3(): return 3 }" + MAIN, ("join", "f", 3))

    def test_what_is_no_step(self):
        module = admitted_text(LOOP)
        for step in ((), ("pick",), ("pick", "main"), ("take_out", "main", 2), ("use", "main", 2, ("n", 1), ("fold",)), ("drop", "main", 0), ["drop", "main"], None,
                     0, "drop", (["drop"], "main"), ("Drop", "main"), (None, "main")):
            self.assertEqual(outcome(apply_flow, module, step), 0, step)
        for name in ("nothing", "", None, 0, ["main"], ("main",), b"main", True):
            for step in (("pick", name, 1), ("drop", name), ("carry", name, (1,), 0), ("land", name, 1, ((0, 0),))):
                self.assertEqual(outcome(apply_flow, module, step), 1, step)

    def test_against_the_words(self):
        found = self.against(told_flow, FLOW_WORDS, 300)
        for word, arity in (("pick", 3), ("drop", 2), ("join", 3), ("bend", 4), ("carry", 4), ("param_out", 4)):
            for at in list(range(arity + 1)) + ["fits"]:
                self.assertGreater(found.get((word, at), 0), 3, (word, at))
        for word, ats in (("land", (0, 1, 2, 3)), ("twin", (0, 1, 2, 3, 4))):
            for at in ats + ("fits",):
                self.assertGreater(found.get((word, at), 0), 3, (word, at))

    def drawn(self, word, module, new):
        """[38]: how the runs with some fuel compare."""
        if word in ("pick", "drop", "twin", "carry", "param_out"):
            self.equal_runs(module, new)
        elif word == "land":
            self.later_runs(module, new)
        else:
            self.later_runs(new, module)
        self.grown(word, module, new)

    def equal_runs(self, module, new):
        for inputs in INPUTS:
            for fuel in (0, 1, 2, 3, 5, 9, 20, 70):
                self.assertEqual(run_module(module, inputs, fuel), run_module(new, inputs, fuel))

    def later_runs(self, short, long):
        """Each run of the first one is a run of the second one with some fuel, up to twice as much."""
        for inputs in INPUTS[:3]:
            for fuel in (0, 1, 2, 3, 5, 9, 20):
                runs = [run_module(long, inputs, more) for more in range(fuel, 2 * fuel + 1)]
                self.assertIn(run_module(short, inputs, fuel), runs)

    def grown(self, word, module, new):
        for old, function in zip(module[1], new[1]):
            blocks, ops = [(len(one[3]), sum(len(block[2]) for block in one[3])) for one in (old, function)]
            self.assertLessEqual(ops[0], blocks[0] + 1)
            if word != "twin":
                self.assertLessEqual(ops[1], blocks[1])
            if function != old:
                self.assertEqual(function[:3], old[:3])


class Fewer(FlowCase):
    def test_pick(self):
        text = "define i8 @f(i1){ b0(): branch %s b1(): return 1 b2(i8 $1): return $1 }" + MAIN
        for end, later in (("1, b1(), b2(3)", "jump b1()"), ("0, b1(), b2(3)", "jump b2(3)"), ("$0, b2(3), b2(3)", "jump b2(3)"), ("0, b2(3), b2(4)", "jump b2(4)"),
                           ("1, b2(3), b2(3)", "jump b2(3)")):
            self.fits(text % end, ("pick", "f", 0), (text % end).replace("branch " + end, later))
        for end in ("$0, b1(), b2(3)", "$0, b2(3), b2(4)"):
            self.refused(text % end, ("pick", "f", 0), 3)
            self.refused(text % end, ("pick", "f", 1), 3)
            self.refused(text % end, ("pick", "f", 3), 2)
        unreached = "define i8 @main(){ b0(): return 0 b1(): $0 = input i1 branch 0, b1(), b2() b2(): stop }"
        self.fits(unreached, ("pick", "main", 1), unreached.replace("branch 0, b1(), b2()", "jump b2()"))

    def test_drop(self):
        self.fits("define i8 @main(){ b0(): jump b4() b3(): $0 = input i8 jump b4() b2(): jump b3() b4(): return 1 }", ("drop", "main"),
                  "define i8 @main(){ b0(): jump b4() b4(): return 1 }")
        self.refused(LOOP, ("drop", "main"), 2)
        self.refused("define i8 @main(){ b0(): branch 0, b1(), b2() b1(): stop b2(): stop }", ("drop", "main"), 2)

    def test_join(self):
        text = """define i8 @f(i8, i1){ b9(): $2 = input i8 jump b4($2, 7, $0) b4(i8 $3, i8 $4, i8 $5): $6 = add i8 $3, $4 branch $1, b5($3, $6), b6()
            b5(i8 $7, i8 $8): print i8 $4 jump b6() b6(): return $3 b8(): print i8 $5 stop }""" + MAIN
        self.fits(text, ("join", "f", 4), """define i8 @f(i8, i1){ b9(): $2 = input i8 $6 = add i8 $2, 7 branch $1, b5($2, $6), b6()
            b5(i8 $7, i8 $8): print i8 7 jump b6() b6(): return $2 b8(): print i8 $0 stop }""" + MAIN)
        for label, at in ((9, 3), (5, 3), (6, 3), (8, 3), (7, 2)):
            self.refused(text, ("join", "f", label), at)
        self.refused(text.replace("b8(): print i8 $5 stop", "b8(): jump b4(1, 2, 3)"), ("join", "f", 4), 3)
        self.refused("define i8 @main(){ b0(): return 0 b1(): jump b2() b2(): stop }", ("join", "main", 2), 3)
        self.refused("define i8 @main(){ b0(): return 0 b1(): jump b1() }", ("join", "main", 1), 3)
        self.refused("define i8 @main(){ b0(): branch 1, b1(), b1() b1(): stop }", ("join", "main", 1), 3)
        self.refused("define i8 @main(){ b0(): branch 1, b1(), b2() b1(): stop b2(): stop }", ("join", "main", 1), 3)
        twice = "define i8 @main(){ b0(): jump b1(1, 2) b1(i8 $0, i8 $1): jump b2($1, $0) b2(i8 $2, i8 $3): $4 = sub i8 $2, $3 return $4 }"
        self.fits(twice, ("join", "main", 2), "define i8 @main(){ b0(): jump b1(1, 2) b1(i8 $0, i8 $1): $4 = sub i8 $1, $0 return $4 }")
        self.fits(twice, ("join", "main", 1), "define i8 @main(){ b0(): jump b2(2, 1) b2(i8 $2, i8 $3): $4 = sub i8 $2, $3 return $4 }")

    def test_join_and_the_order_of_blocks(self):
        self.fits("define i8 @main(){ b0(): jump b3() b1(): return 1 b3(): $0 = input i8 jump b1() }", ("join", "main", 3),
                  "define i8 @main(){ b0(): $0 = input i8 jump b1() b1(): return 1 }")

    def test_bend(self):
        text = """define i8 @f(i8, i1){ b0(): branch $1, b1(3, $0), b1($0, 4) b1(i8 $2, i8 $3): jump b2($3, $0, $2, 5) b2(i8 $4, i8 $5, i8 $6, i8 $7): return $4 }""" + MAIN
        self.fits(text, ("bend", "f", 0, 0), text.replace("b1(3, $0)", "b2($0, $0, 3, 5)"))
        self.fits(text, ("bend", "f", 0, 1), text.replace("b1($0, 4)", "b2(4, $0, $0, 5)"))
        self.refused(text, ("bend", "f", 0, 2), 3)
        self.refused(text, ("bend", "f", 2, 0), 3)
        self.refused(text, ("bend", "f", 1, 0), 4)
        self.refused(text, ("bend", "f", 0, True), 3)
        self.refused(text.replace("jump b2($3, $0, $2, 5)", "$8 = add i8 1, 1 jump b2($3, $0, $2, 5)"), ("bend", "f", 0, 0), 4)
        self.refused(text.replace("return $4", "return $2"), ("bend", "f", 0, 0), 4)
        self.refused(text.replace("jump b2($3, $0, $2, 5)", "branch $1, b2(1, 2, 3, 4), b2(1, 2, 3, 4)"), ("bend", "f", 0, 0), 4)
        self.refused(text.replace("return $4 }", "return $4 b7(): print i8 $2 stop }", 1), ("bend", "f", 0, 0), 4)
        self.fits(text.replace("return $4 }", "return $4 b7(): jump b1(1, 2) }", 1), ("bend", "f", 7, 0),
                  text.replace("return $4 }", "return $4 b7(): jump b2(2, $0, 1, 5) }", 1))

    def test_bend_in_rings(self):
        ring = "define i8 @main(){ b0(): jump b1() b1(): jump b2() b2(): jump b1() }"
        self.fits(ring, ("bend", "main", 0, 0), ring.replace("b0(): jump b1()", "b0(): jump b2()"))
        self.fits(ring, ("bend", "main", 1, 0), ring.replace("b1(): jump b2()", "b1(): jump b1()"))
        self.refused(ring.replace("b1(): jump b2()", "b1(): jump b1()"), ("bend", "main", 0, 0), 4)
        self.refused(ring.replace("b1(): jump b2()", "b1(): jump b1()"), ("bend", "main", 1, 0), 4)


class More(FlowCase):
    text = """define i8 @f(i8, i1, ptr){ b0(): $3 = input i8 branch $1, b2($3, $2), b2(7, $2) b2(i8 $4, ptr $5): $6 = load i8 $5 branch $1, b2($6, $2), b3()
        b3(): return 0 b9(): jump b2(1, $2) }""" + MAIN

    def test_land(self):
        self.fits(self.text, ("land", "f", 2, ((0, 1), (2, 0))), """define i8 @f(i8, i1, ptr){ b0(): $3 = input i8 branch $1, b2($3, $2), b10(7, $2)
            b2(i8 $4, ptr $5): $6 = load i8 $5 branch $1, b10($6, $2), b3() b3(): return 0 b9(): jump b2(1, $2) b10(i8 $7, ptr $8): jump b2($7, $8) }""" + MAIN)
        self.fits(self.text, ("land", "f", 3, ((2, 1),)), self.text.replace("$2), b3()", "$2), b10()").replace("b9(): jump b2(1, $2) }", "b9(): jump b2(1, $2) b10(): jump b3() }"))
        self.fits(self.text, ("land", "f", 2, ((0, 0), (0, 1), (2, 0), (9, 0))), """define i8 @f(i8, i1, ptr){ b0(): $3 = input i8 branch $1, b10($3, $2), b10(7, $2)
            b2(i8 $4, ptr $5): $6 = load i8 $5 branch $1, b10($6, $2), b3() b3(): return 0 b9(): jump b10(1, $2) b10(i8 $7, ptr $8): jump b2($7, $8) }""" + MAIN)

    def test_ways(self):
        for word in ("land", "twin"):
            for ways in ((), ((0, 1), (0, 0)), ((0, 0), (0, 0)), ((0, 2),), ((2, 1),), ((3, 0),), ((4, 0),), [(0, 0)], ([0, 0],), ((0, 0, 0),), ((0,),), ((0, True),),
                         ((False, 0),), ((0, 0.0),), None, 0, (0, 0), ((0, None),), ((0, "0"),), ((0, -1),), {(0, 0): 1}):
                self.refused(self.text, (word, "f", 2, ways), 3)
            self.refused(self.text, (word, "f", 0, ((0, 0),)), 3)
            self.refused(self.text, (word, "f", 1, ((0, 0),)), 2)

    def test_twin(self):
        self.fits(self.text, ("twin", "f", 2, ((0, 1), (2, 0))), """define i8 @f(i8, i1, ptr){ b0(): $3 = input i8 branch $1, b2($3, $2), b10(7, $2)
            b2(i8 $4, ptr $5): $6 = load i8 $5 branch $1, b10($6, $2), b3() b3(): return 0 b9(): jump b2(1, $2)
            b10(i8 $7, ptr $8): $9 = load i8 $8 branch $1, b2($9, $2), b3() }""" + MAIN)
        for old, new in (("return 0", "return $4"), ("return 0", "return $6"), ("b2(1, $2)", "b2($6, $2)"), ("b2(1, $2)", "b2(1, $5)")):
            self.refused(self.text.replace(old, new, 1), ("twin", "f", 2, ((0, 1),)), 4)
        self.fits(self.text, ("twin", "f", 3, ((2, 1),)), self.text.replace("$2), b3()", "$2), b10()").replace("b9(): jump b2(1, $2) }", "b9(): jump b2(1, $2) b10(): return 0 }"))

    def test_new_numbers(self):
        """They follow the greatest of all blocks, also of those that are not reached, and of the params of the function."""
        self.fits("define i8 @f(i8, i8, i8){ b5(): jump b1(1) b1(i8 $40): return $40 b77(): $90 = input i8 stop }" + MAIN, ("land", "f", 1, ((5, 0),)),
                  """define i8 @f(i8, i8, i8){ b5(): jump b78(1) b1(i8 $40): return $40 b77(): $90 = input i8 stop b78(i8 $91): jump b1($91) }""" + MAIN)
        self.fits("define i8 @f(){ b0(): jump b1() b1(): $0 = alloca i8, 1 call @g() $1 = add i8 1, 1 print i8 $1 return 0 } define void @g(){ b0(): return }" + MAIN,
                  ("twin", "f", 1, ((0, 0),)), """define i8 @f(){ b0(): jump b2() b1(): $0 = alloca i8, 1 call @g() $1 = add i8 1, 1 print i8 $1 return 0
            b2(): $2 = alloca i8, 1 call @g() $3 = add i8 1, 1 print i8 $3 return 0 } define void @g(){ b0(): return }""" + MAIN)

    def test_the_examples(self):
        module = admitted_text(LOOP)
        once = apply_flow(module, ("twin", "main", 1, ((0, 0),)))
        self.assertEqual(once[1][0][3][0][3], ("jump", (4, (("v", 0),))))
        self.assertEqual(once[1][0][3][4], (4, ((3, 8),), ((4, "cmp", ("ult", 8), (("v", 3), ("n", 9))), (None, "print", (8,), (("v", 3),))),
                                            ("branch", ("v", 4), (2, ()), (3, ()))))
        later = apply_flow(once, ("join", "main", 4))
        self.assertEqual(later[1][0][3][0][2][1:], ((4, "cmp", ("ult", 8), (("v", 0), ("n", 9))), (None, "print", (8,), (("v", 0),))))


class Params(FlowCase):
    def test_carry(self):
        text = """define i8 @f(i8, i1){ b0(): $2 = input i8 jump b1(4) b1(i8 $3): branch $1, b2(), b3() b2(): print i8 $2 jump b4($2) b3(): jump b4($2)
            b4(i8 $4): $5 = add i8 $2, $4 branch $1, b1($2), b5() b5(): return $2 b7(): print i8 $2 jump b4($2) }""" + MAIN
        self.fits(text, ("carry", "f", (1,), 2), """define i8 @f(i8, i1){ b0(): $2 = input i8 jump b1(4, $2) b1(i8 $3, i8 $6): branch $1, b2(), b3() b2(): print i8 $6
            jump b4($6) b3(): jump b4($6) b4(i8 $4): $5 = add i8 $6, $4 branch $1, b1($6, $6), b5() b5(): return $6 b7(): print i8 $2 jump b4($2) }""" + MAIN)
        self.fits(text, ("carry", "f", (2, 4), 2), """define i8 @f(i8, i1){ b0(): $2 = input i8 jump b1(4) b1(i8 $3): branch $1, b2($2), b3() b2(i8 $6): print i8 $6
            jump b4($6, $6) b3(): jump b4($2, $2) b4(i8 $4, i8 $7): $5 = add i8 $7, $4 branch $1, b1($7), b5() b5(): return $7 b7(): print i8 $2 jump b4($2, $2) }""" + MAIN)
        self.fits(text, ("carry", "f", (1, 5), 2), """define i8 @f(i8, i1){ b0(): $2 = input i8 jump b1(4, $2) b1(i8 $3, i8 $6): branch $1, b2(), b3() b2(): print i8 $6
            jump b4($6) b3(): jump b4($6) b4(i8 $4): $5 = add i8 $6, $4 branch $1, b1($6, $6), b5($6) b5(i8 $7): return $7 b7(): print i8 $2 jump b4($2) }""" + MAIN)
        self.fits(text, ("carry", "f", (5,), 0), text.replace("b5() b5():", "b5($0) b5(i8 $6):"))
        self.fits(text, ("carry", "f", (4,), 3), text.replace("jump b4($2) b3", "jump b4($2, $3) b3").replace("b3(): jump b4($2)", "b3(): jump b4($2, $3)").replace(
            "b4(i8 $4)", "b4(i8 $4, i8 $6)").replace("print i8 $2 jump b4($2) }", "print i8 $2 jump b4($2, $3) }"))
        for labels, value, at in (((0,), 2, 4), ((7,), 2, 4), ((1,), 3, 4), ((0, 1), 0, 4), ((1,), 5, 4), ((4,), 4, 4), ((4,), 5, 4), ((1, 7), 2, 4), ((1,), 6, 3), ((1,), 99, 3),
                                  ((1,), True, 3), ((1,), None, 3), ((1,), "2", 3), ((), 2, 2), ((1, 1), 2, 2), ((4, 2), 2, 2), ((6,), 2, 2), ([1], 2, 2), ((True,), 2, 2),
                                  ((1.0,), 2, 2), (None, 2, 2), (1, 2, 2), (((1,),), 2, 2), ((8,), 99, 2), ((2,), 4, 4), ((3,), 5, 4)):
            self.refused(text, ("carry", "f", labels, value), at)
        self.fits(text, ("carry", "f", (1,), 1), text.replace("jump b1(4)", "jump b1(4, $1)").replace("b1(i8 $3): branch $1", "b1(i8 $3, i1 $6): branch $6").replace(
            "branch $1, b1($2), b5()", "branch $6, b1($2, $6), b5()"))

    def test_carry_of_pointers(self):
        self.fits("define i8 @main(){ b0(): $0 = alloca i8, 1 jump b1() b1(): $1 = load i8 $0 jump b1() }", ("carry", "main", (1,), 0),
                  "define i8 @main(){ b0(): $0 = alloca i8, 1 jump b1($0) b1(ptr $2): $1 = load i8 $2 jump b1($2) }")

    def test_carry_to_all_makes_twins_fit(self):
        """[38]: behind carries of all that a block makes into what it dominates, and a drop, the block can be twinned."""
        twinned = 0
        for rng in sources(120, seed=4):
            module = lively_module(rng)
            function = rng.choice(module[1])
            name, web = function[0], Web(function)
            label = rng.choice(sorted(web.reached))
            if label == function[3][0][0]:
                continue
            block = [block for block in function[3] if block[0] == label][0]
            labels = tuple(other for other in sorted(web.reached) if other != label and web.dominates(label, other))
            for value in [value for value, _ in block[1]] + [op[0] for op in block[2] if op[0] is not None]:
                if labels:
                    module = apply_flow(module, ("carry", name, labels, value))
            if len(web.reached) < len(web.labels):
                module = apply_flow(module, ("drop", name))
            function = [function for function in module[1] if function[0] == name][0]
            ways = tuple(sorted((other[0], at) for other in function[3] for at, target in enumerate(Web(function).heads[other[0]]) if target == label))
            apply_flow(module, ("twin", name, label, ways))
            twinned += 1
        self.assertGreater(twinned, 40)

    def test_param_out(self):
        text = """define i8 @f(i8, i1){ b0(): jump b1(1, 2, 3) b1(i8 $2, i8 $3, i8 $4): branch $1, b1($2, $4, 7), b2() b2(): jump b1($2, 5, 6)
            b7(): jump b1($2, $3, 8) }""" + MAIN
        self.fits(text, ("param_out", "f", 1, 0), """define i8 @f(i8, i1){ b0(): jump b1(2, 3) b1(i8 $3, i8 $4): branch $1, b1($4, 7), b2() b2(): jump b1(5, 6)
            b7(): jump b1($3, 8) }""" + MAIN)
        self.fits(text, ("param_out", "f", 1, 1), """define i8 @f(i8, i1){ b0(): jump b1(1, 3) b1(i8 $2, i8 $4): branch $1, b1($2, 7), b2() b2(): jump b1($2, 6)
            b7(): jump b1($2, 8) }""" + MAIN)
        self.refused(text, ("param_out", "f", 1, 2), 4)
        for at, told in ((3, 3), (True, 3), (None, 3), (-1, 3), (0.0, 3), ((0,), 3)):
            self.refused(text, ("param_out", "f", 1, at), told)
        self.refused(text, ("param_out", "f", 0, 0), 3)
        self.refused(text, ("param_out", "f", 2, 0), 3)
        self.refused(text, ("param_out", "f", 3, 0), 2)
        for old, new in (("branch $1, b1($2, $4, 7)", "branch $1, b1($2, $2, 7)"), ("b1($2, 5, 6)", "b1(5, $2, 6)"), ("b2(): jump", "b2(): print i8 $2 jump"),
                         ("b1($2, $3, 8)", "b1($2, $3, $2)"), ("b2() b2(): jump b1($2, 5, 6)", "b2($2) b2(i8 $5): jump b1($2, 5, 6)")):
            self.refused(text.replace(old, new), ("param_out", "f", 1, 0), 4)
        conditions = "define i8 @main(){ b0(): jump b1(1) b1(i1 $0): branch $0, b1($0), b1($0) }"
        self.refused(conditions, ("param_out", "main", 1, 0), 4)
        self.refused("define i8 @main(){ b0(): jump b1(1) b1(i8 $0): return $0 }", ("param_out", "main", 1, 0), 4)
        self.fits("define i8 @main(){ b0(): jump b1(1) b1(i8 $0): return 4 }", ("param_out", "main", 1, 0), "define i8 @main(){ b0(): jump b1() b1(): return 4 }")


if __name__ == "__main__":
    unittest.main()
