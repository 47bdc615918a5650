"""What the tests of passes have in common: modules of all sorts, papers made step by step, runs that agree."""

from anypasses.admission import module_fault
from anypasses.forms import is_module
from anypasses.judge import apply_step, judged
from anypasses.machine import run_module, whole_run
from anypasses.papers import is_paper
from anypasses.runs import agree_so_far
from callers import calling_module
from lively import lively_module
from loopy import loopy_module
from making import admitted_module
from stepping import INPUTS

LONGER = ("put_in", "land", "tail_loop")
MAIN = " define i8 @main(){ b0(): return 0 }"


def any_module(rng):
    return rng.choice((loopy_module, loopy_module, lively_module, lively_module, calling_module, admitted_module))(rng)


def function_of(module, name):
    return [function for function in module[1] if function[0] == name][0]


def uses_of(function, labels=None):
    """How often each value is an operand in the blocks with these labels, or in all."""
    counts = {}
    for label, _, ops, end in function[3]:
        if labels is None or label in labels:
            for word, thing in operands_in((ops, end)):
                if word == "v":
                    counts[thing] = counts.get(thing, 0) + 1
    return counts


def operands_in(thing):
    """All operands in a nested tuple."""
    if type(thing) is not tuple:
        return []
    if len(thing) == 2 and thing[0] in ("v", "n", "g") and type(thing[0]) is str:
        return [thing]
    return [found for part in thing for found in operands_in(part)]


def is_plain_thing(thing):
    """Whether something is put together of tuples, strings, numbers and None alone."""
    if type(thing) is tuple:
        return all(is_plain_thing(part) for part in thing)
    return thing is None or type(thing) in (str, int)


class Passes:
    """Checks for a test case of passes."""

    def made(self, module, paper, words):
        """The pairs of the module ahead of a step and the step, for each; all have these words, and the judge takes all."""
        self.assertTrue(is_paper(paper) and is_plain_thing(paper))
        self.assertLessEqual({step[0] for step in paper}, set(words))
        now, row = module, []
        for step in paper:
            row.append((now, step))
            now = apply_step(now, step)
        self.assertEqual(judged(module, paper), now)
        self.assertTrue(is_module(now))
        self.assertIsNone(module_fault(now))
        return row, now

    def same_ends(self, module, later, paper, fuel=120):
        """The runs of both agree, and if one ends so does the other, with no more fuel than [50] tells."""
        more = 1 + sum(step[0] in LONGER for step in paper)
        for inputs in INPUTS:
            for some in (6, fuel):
                self.assertTrue(agree_so_far(run_module(module, inputs, some), run_module(later, inputs, some)))
            told = whole_run(module, inputs, fuel)
            if told is not None:
                again = whole_run(later, inputs, (told[1] + 1) * more)
                self.assertIsNotNone(again)
                self.assertEqual(again[0], told[0])

    def equal_runs(self, module, later):
        """The runs of both are equal with each fuel."""
        for inputs in INPUTS:
            for fuel in (0, 1, 2, 5, 11, 40, 120):
                self.assertEqual(run_module(module, inputs, fuel), run_module(later, inputs, fuel))

    def asked_wrong(self, error, at, ask, *args):
        with self.assertRaises(error) as caught:
            ask(*args)
        self.assertEqual(caught.exception.at, at)
