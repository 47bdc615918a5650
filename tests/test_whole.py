"""Over the whole program ([50], [74], [80]): rows of all passes keep the runs of modules."""

import unittest

from anypasses.judge import judged
from anypasses.machine import whole_run
from anypasses.reading import read_module
from anypasses.rows import PASSES, optimised, rounds_told, whole
from anypasses.writing import module_text
from making import sources
from passing import Passes, any_module
from stepping import INPUTS


class Whole(Passes, unittest.TestCase):
    def test_rows_of_all_passes(self):
        for rng in sources(120):
            module = any_module(rng)
            names = rng.sample(PASSES, len(PASSES))
            later, paper = optimised(module, names)
            self.same_ends(module, later, paper)
            self.assertEqual(judged(module, paper), later)
            for inputs in INPUTS:
                told = whole_run(later, inputs, 100)
                if told is not None:
                    self.assertEqual(whole_run(module, inputs, 6000)[0], told[0])

    def test_again_and_again(self):
        """Rows of all passes, done until all are still or five times."""
        for rng in sources(60, seed=1):
            module = any_module(rng)
            later, paper, _ = rounds_told(module, rng.sample(PASSES, len(PASSES)), 5)
            self.same_ends(module, later, paper)

    def test_texts(self):
        for rng in sources(40, seed=2):
            module = any_module(rng)
            names = rng.choices(PASSES, k=rng.randint(0, 12))
            text = whole(module_text(module), names)
            later = read_module(text)
            self.assertEqual(text, module_text(later))
            self.same_ends(module, later, optimised(module, names)[1])


if __name__ == "__main__":
    unittest.main()
