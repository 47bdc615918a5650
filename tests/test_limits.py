"""[3]: answers in time at large modules; each pass is done, judged and asked again within some seconds."""

import time
import unittest

from anypasses.admission import module_fault
from anypasses.builds import Build
from anypasses.judge import judged
from anypasses.loops import loops_of
from anypasses.peeling import is_plain, peel_paper
from anypasses.rows import PASSES, optimised, pass_paper
from anypasses.writing import module_text
from loopy import LoopyMaker
from making import sources

MANY_SECONDS = 120


class LargeMaker(LoopyMaker):
    """Makes a function of many blocks, each of several ops that mostly use what was made not long before."""

    most_pieces = 5
    depth = 3

    def __init__(self, rng, name, signatures, places):
        LoopyMaker.__init__(self, rng, name, signatures, places)
        self.fresh = rng.sample(range(len(self.params), 30000), 8000)

    def op_count(self):
        return self.rng.randint(7, 12)

    def block_count(self):
        while True:
            self.ends = []
            last = self.row(self.depth, self.new())
            while len(self.ends) < 150:
                last = self.row(self.depth, last)
            self.ends[last] = ("return", [])
            if len(self.ends) <= 200:
                return len(self.ends)

    def pick(self, kind, at_hand, ops):
        return LoopyMaker.pick(self, kind, at_hand[-50:] if len(at_hand) > 50 else at_hand, ops)


def large_module(rng):
    """A module with one function as large as [3] lets, or nearly so; its labels are as many as its blocks."""
    maker = LargeMaker(rng, "main", {"main": ((), 8)}, ["tab"])
    maker.rng = Wide(rng)
    return ((("tab", 8, 2, (3, 200)),), (maker.function(),))


class Wide:
    """A random source that has more labels to choose from."""

    def __init__(self, rng):
        self.rng = rng

    def __getattr__(self, word):
        return getattr(self.rng, word)

    def sample(self, things, count):
        return self.rng.sample(range(500) if things == range(60) else things, count)


class Limits(unittest.TestCase):
    def test_each_pass(self):
        for rng in sources(1):
            module = large_module(rng)
            self.assertIsNone(module_fault(module))
            self.assertGreater(sum(len(block[2]) for block in module[1][0][3]), 1300)
            for name in PASSES:
                start = time.monotonic()
                paper = pass_paper(module, name)
                self.assertEqual(pass_paper(judged(module, paper), name), ())
                self.assertLess(time.monotonic() - start, MANY_SECONDS, name)

    def test_peeling(self):
        module = large_module(sources(1, seed=1)[0])
        function = module[1][0]
        plain = [head for head, _ in loops_of(function) if is_plain(function, head)]
        self.assertGreater(len(plain), 3)
        for head in plain[:3]:
            start = time.monotonic()
            judged(module, peel_paper(module, "main", head))
            self.assertLess(time.monotonic() - start, MANY_SECONDS)

    def test_a_row(self):
        module = large_module(sources(1, seed=2)[0])
        build = Build(module_text(module))
        names = ("promote", "memory", "ranges", "tidy", "neat")
        start = time.monotonic()
        for name in names:
            build.do(name)
        self.assertEqual((build.module(), build.paper()), optimised(module, names))
        self.assertLess(time.monotonic() - start, MANY_SECONDS)


if __name__ == "__main__":
    unittest.main()
