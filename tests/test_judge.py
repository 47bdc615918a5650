"""[48] to [50]: the judge."""

import unittest

from anypasses.call_steps import apply_call
from anypasses.errors import InvalidQuestion, InvalidStep
from anypasses.flow_steps import apply_flow
from anypasses.judge import apply_step, fitting_steps, judged, leads, same_runs, shortened, stages
from anypasses.machine import run_module, whole_run
from anypasses.memory_steps import apply_memory
from anypasses.papers import is_paper, step_words
from anypasses.runs import agree_so_far
from anypasses.value_steps import apply_value
from callers import calling_module
from drawing import Drawer, spoilt
from lively import lively_module
from making import sources
from stepping import INPUTS, admitted_text, outcome
from test_papers import NO_STEPS

LONGER = ("put_in", "land", "tail_loop")
TEXT = """define i8 @f(i8){ b0(): return $0 } define i8 @main(){ b0(): $0 = input i8 $1 = add i8 $0, 0 branch 1, b1(), b2() b1(): $2 = call @f($1) print i8 $2 return $1
    b2(): return 9 }"""
PAPER = (("use", "main", 1, ("v", 0), ("rule", 0)), ("pick", "main", 0), ("drop", "main"), ("take_out", "main", 1), ("result_known", "f", ("v", 0)), ("join", "main", 1))


def drawn_paper(rng, module, many, words=None):
    """A paper of drawn steps all of which fit."""
    paper = []
    for _ in range(many * 8):
        step = Drawer(rng, module).step(rng.choice(words or step_words()))
        later = outcome(apply_step, module, step)
        if type(later) is not int and len(paper) < many:
            paper.append(step)
            module = later
    return tuple(paper)


def some_module(rng):
    return lively_module(rng) if rng.random() < 0.6 else calling_module(rng)


class Judge(unittest.TestCase):
    def refused(self, error, at, ask, *args):
        with self.assertRaises(error) as caught:
            ask(*args)
        self.assertEqual(caught.exception.at, at)

    def test_apply_step_asks_the_chapters(self):
        seen = {}
        for rng in sources(60):
            module = some_module(rng)
            for word in step_words():
                step = Drawer(rng, module).step(word)
                step = spoilt(rng, step) if rng.random() < 0.2 else step
                told = [outcome(apply, module, step) for apply in (apply_value, apply_flow, apply_memory, apply_call)]
                fitting = [one for one in told if one != 0] or [0]
                self.assertEqual(len(fitting), 1)
                self.assertEqual(outcome(apply_step, module, step), fitting[0])
                seen[word] = seen.get(word, 0) + (type(fitting[0]) is not int)
        self.assertGreater(sum(count > 0 for count in seen.values()), 20)

    def test_no_steps(self):
        for value in NO_STEPS + (("use",), ("inline", "main"), ("drop",), ("promote", 1)):
            self.refused(InvalidStep, 0, apply_step, admitted_text(TEXT), value)
        self.refused(InvalidStep, 2, apply_step, admitted_text(TEXT), ("take_out", "main", 7))

    def test_judged(self):
        module = admitted_text(TEXT)
        self.assertEqual(judged(module, ()), module)
        self.assertEqual(judged(module, PAPER), admitted_text("""define i8 @f(i8){ b0(): return $0 } define i8 @main(){ b0(): $0 = input i8 $2 = call @f($0)
            print i8 $0 return $0 }"""))
        self.assertEqual(fitting_steps(module, PAPER), 6)

    def test_the_first_step_that_does_not_fit(self):
        module = admitted_text(TEXT)
        for at in range(len(PAPER) + 1):
            for wrong in (("take_out", "main", 1.0), ("drop", "f"), ("use",), ("pick", "main", 0, 0)):
                paper = PAPER[:at] + (wrong,) + PAPER[at:]
                self.refused(InvalidStep, at, judged, module, paper)
                self.refused(InvalidStep, at, stages, module, paper)
                self.refused(InvalidStep, at, shortened, module, paper)
                self.assertEqual(fitting_steps(module, paper), at)
                self.assertIs(leads(module, paper, judged(module, PAPER)), False)
        self.refused(InvalidStep, 1, judged, module, PAPER[:1] + PAPER[2:])
        self.assertEqual(fitting_steps(module, PAPER[::-1]), 0)
        self.refused(InvalidStep, 0, judged, module, PAPER[::-1])

    def test_what_is_no_paper(self):
        module = admitted_text(TEXT)
        for value in (None, 0, "use", [], list(PAPER), PAPER[0], {}, PAPER + (None,), PAPER[:1] + (list(PAPER[1]),), ((),), (("nothing",),)):
            for ask in (judged, fitting_steps, stages, shortened):
                self.refused(InvalidQuestion, 1, ask, module, value)
            self.assertIs(leads(module, value, module), False)

    def test_stages(self):
        module = admitted_text(TEXT)
        row = stages(module, PAPER)
        self.assertIs(type(row), tuple)
        self.assertEqual(row, tuple(judged(module, PAPER[:at]) for at in range(7)))
        self.assertEqual(stages(module, ()), (module,))

    def test_papers_cut_and_put_together(self):
        for rng in sources(60, seed=1):
            module = some_module(rng)
            paper = drawn_paper(rng, module, 8)
            row = stages(module, paper)
            for at in range(len(paper) + 1):
                self.assertEqual(judged(module, paper[:at]), row[at])
                self.assertEqual(judged(row[at], paper[at:]), row[-1])
                self.assertEqual(stages(row[at], paper[at:]), row[at:])
                self.assertTrue(leads(row[at], paper[at:], row[-1]))
            self.assertEqual(fitting_steps(module, paper), len(paper))

    def test_leads(self):
        module = admitted_text(TEXT)
        later = judged(module, PAPER)
        self.assertIs(leads(module, PAPER, later), True)
        self.assertIs(leads(module, (), module), True)
        self.assertIs(leads(module, PAPER[:-1], later), False)
        self.assertIs(leads(module, PAPER, module), False)
        self.assertIs(leads(later, PAPER, later), False)
        self.assertIs(leads(module, PAPER, None), False)


class Shortened(unittest.TestCase):
    def check(self, module, paper):
        short = shortened(module, paper)
        goal = judged(module, paper)
        self.assertTrue(is_paper(short))
        self.assertLessEqual(len(short), len(paper))
        self.assertTrue(leads(module, short, goal))
        for at in range(len(short)):
            self.assertFalse(leads(module, short[:at] + short[at + 1:], goal))
        return short

    def test_nothing_to_leave_out(self):
        module = admitted_text(TEXT)
        self.assertEqual(self.check(module, ()), ())
        self.assertEqual(self.check(module, PAPER), PAPER)

    def test_there_and_back(self):
        module = admitted_text(TEXT)
        there = ("put_in", "main", 2, 0, (7, "bin", ("add", 8), (("v", 0), ("n", 2))))
        back = ("take_out", "main", 7)
        self.assertEqual(self.check(module, (there, back)), ())
        self.assertEqual(self.check(module, (there, back, there)), (there,))
        self.assertEqual(self.check(module, (there, back) * 15), ())
        self.assertEqual(self.check(module, PAPER[:1] + (there,) + PAPER[1:2] + (back,) + PAPER[2:]), PAPER)
        self.assertEqual(self.check(module, (there,) + PAPER), PAPER)

    def test_steps_that_change_nothing(self):
        module = admitted_text(TEXT)
        merely = ("use", "main", 1, ("v", 0), ("rule", 0))
        self.assertEqual(self.check(module, (merely, merely, merely)), (merely,))

    def test_drawn(self):
        shorter = 0
        for rng in sources(60, seed=2):
            module = some_module(rng)
            paper = drawn_paper(rng, module, 10)
            shorter += len(self.check(module, paper)) < len(paper)
        self.assertGreater(shorter, 8)

    def test_thirty_steps(self):
        for rng in sources(4, seed=3):
            module = some_module(rng)
            self.check(module, drawn_paper(rng, module, 30))


class Runs(unittest.TestCase):
    def test_same_runs(self):
        module = admitted_text("define i8 @main(){ b0(): $0 = input i8 print i8 $0 return 3 }")
        other = admitted_text("define i8 @main(){ b0(): $0 = input i8 print i8 7 return 3 }")
        late = admitted_text("define i8 @main(){ b0(): $1 = add i8 1, 1 $0 = input i8 print i8 $0 return 3 }")
        for fuel in range(6):
            self.assertIs(same_runs(module, module, [4], fuel), True)
            self.assertIs(same_runs(module, late, (4,), fuel), True)
            self.assertIs(same_runs(late, module, (4,), fuel), True)
            self.assertIs(same_runs(module, other, (4,), fuel), fuel < 2)
            self.assertIs(same_runs(module, other, (7,), fuel), True)
            self.assertIs(same_runs(module, other, (), fuel), True)

    def test_papers_of_steps_of_all_kinds(self):
        """[50]: runs cut anywhere agree, ends are the same, and the fuel is as told."""
        for rng in sources(120, seed=4):
            module = some_module(rng)
            paper = drawn_paper(rng, module, rng.randint(1, 12))
            later = judged(module, paper)
            many = sum(step[0] in LONGER for step in paper)
            for inputs in INPUTS:
                for fuel in (0, 1, 2, 3, 5, 9, 17, 40, 100):
                    self.assertTrue(same_runs(module, later, inputs, fuel))
                    one, other = run_module(module, inputs, fuel), run_module(later, inputs, 3 * fuel + 1)
                    self.assertTrue(agree_so_far(one, other))
                told = whole_run(module, inputs, 100)
                if told is not None:
                    self.assertEqual(whole_run(later, inputs, (told[1] + 1) * (many + 1))[0], told[0])
                told = whole_run(later, inputs, 100)
                if told is not None:
                    self.assertEqual(whole_run(module, inputs, 100000)[0], told[0])

    def test_papers_of_one_kind(self):
        for kind, words in enumerate((("put_in", "use", "use_in", "take_out", "take_lot"), ("bend", "carry", "drop", "join", "land", "param_out", "pick", "twin"),
                                      ("forward", "load_out", "promote", "store_out", "drop"), ("tail_loop", "inline", "merge", "result_known", "constant_arg"))):
            for rng in sources(15, seed=10 + kind):
                module = some_module(rng)
                paper = drawn_paper(rng, module, 15, words)
                later = judged(module, paper)
                for inputs in INPUTS[:3]:
                    for fuel in (3, 20, 100):
                        self.assertTrue(same_runs(module, later, inputs, fuel))

    def test_many_steps(self):
        """A long paper is made in its order."""
        module = admitted_text("define i8 @main(){ b0(): return 3 }")
        paper = tuple(("put_in", "main", 0, at, (at, "bin", ("add", 8), (("n", 1), ("n", 2)))) for at in range(150))
        paper += tuple(("take_out", "main", at) for at in range(150))
        self.assertEqual(judged(module, paper), module)
        self.assertEqual(fitting_steps(module, paper + (("take_out", "main", 0),)), 300)


if __name__ == "__main__":
    unittest.main()
