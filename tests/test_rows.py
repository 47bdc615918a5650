"""[74], [75], [78], [80]: passes by their names, rows of them, sizes, whole texts."""

import unittest

from anypasses.callpasses import pass_inline, pass_merge, pass_signatures, pass_tails, pass_unused
from anypasses.cleaning import pass_clean
from anypasses.combining import pass_combine
from anypasses.constants import pass_constants
from anypasses.errors import InvalidModule, InvalidQuestion, InvalidText
from anypasses.hoisting import pass_hoist
from anypasses.judge import judged
from anypasses.landing import pass_landings
from anypasses.needs import pass_dead
from anypasses.neatness import pass_neat
from anypasses.papers import is_paper
from anypasses.promotion import pass_promote
from anypasses.rangepasses import pass_ranges
from anypasses.reading import read_module
from anypasses.remembering import pass_memory
from anypasses.rows import PASSES, growth, optimised, pass_paper, rounds_told, size_of, still, whole
from anypasses.sharing import pass_tidy, pass_values
from anypasses.turning import pass_turn
from anypasses.writing import module_text
from making import sources
from passing import Passes, any_module
from stepping import admitted_text

TOLD = {
    "clean": pass_clean, "combine": pass_combine, "constants": pass_constants, "dead": pass_dead, "hoist": pass_hoist, "inline": pass_inline, "landings": pass_landings,
    "memory": pass_memory, "merge": pass_merge, "neat": pass_neat, "promote": pass_promote, "ranges": pass_ranges, "signatures": pass_signatures, "tails": pass_tails,
    "tidy": pass_tidy, "turn": pass_turn, "unused": pass_unused, "values": pass_values,
}
NO_NAMES = (None, 0, 1, True, "", "clean ", "Clean", "pass_clean", "peel", b"clean", ("clean",), ["clean"], {}, 1.0, {"clean"})
NO_ROWS = (None, 0, True, "", "clean", b"", {}, {"clean": 1}, {"clean"}, 1.0, ["clean", "peel"], ("clean", None), [["clean"]], (("clean",),), ["clean", 1], [b"clean"], iter(["clean"]))
TEXT = """define i8 @f(i8){ b0(): $1 = add i8 $0, 0 return $1 } define i8 @main(){ b0(): $0 = alloca i8, 1 $1 = input i8 store i8 $1, $0 jump b1() b1(): $2 = load i8 $0 $3 = call @f($2) print i8 $3
    $4 = add i8 $3, 1 store i8 $4, $0 $5 = cmp ult i8 $4, 7 branch $5, b1(), b2() b2(): return $4 }"""


class Rows(Passes, unittest.TestCase):
    def test_the_eighteen_names(self):
        self.assertEqual(PASSES, tuple(sorted(TOLD)))
        self.assertEqual(len(PASSES), 18)
        self.assertIs(type(PASSES), tuple)

    def test_pass_paper(self):
        for rng in sources(12):
            module = any_module(rng)
            for name in PASSES:
                self.assertEqual(pass_paper(module, name), TOLD[name](module))

    def test_names_that_are_none(self):
        module = admitted_text(TEXT)
        for value in NO_NAMES:
            self.asked_wrong(InvalidQuestion, 1, pass_paper, module, value)
        for value in NO_ROWS:
            for ask in (optimised, still, growth):
                self.asked_wrong(InvalidQuestion, 1, ask, module, value)
            for most in (0, 1, 3):
                self.asked_wrong(InvalidQuestion, 1, rounds_told, module, value, most)
            self.asked_wrong(InvalidQuestion, 1, whole, TEXT, value)

    def test_optimised(self):
        module = admitted_text(TEXT)
        self.assertEqual(optimised(module, []), (module, ()))
        self.assertEqual(optimised(module, ()), (module, ()))
        now, paper = module, ()
        for name in ("promote", "inline", "neat", "tidy", "inline"):
            more = pass_paper(now, name)
            now, paper = judged(now, more), paper + more
        for names in (("promote", "inline", "neat", "tidy", "inline"), ["promote", "inline", "neat", "tidy", "inline"]):
            told = optimised(module, names)
            self.assertIs(type(told), tuple)
            self.assertEqual(told, (now, paper))
            self.assertTrue(is_paper(told[1]))

    def test_names_stay_as_they_are(self):
        names = ["clean", "dead", "clean"]
        module = admitted_text(TEXT)
        for ask in (optimised, still, growth):
            ask(module, names)
        rounds_told(module, names, 2)
        self.assertEqual(names, ["clean", "dead", "clean"])

    def test_rows_in_any_order(self):
        for rng in sources(80, seed=1):
            module = any_module(rng)
            names = rng.choices(PASSES, k=rng.randint(1, 9))
            later, paper = optimised(module, names)
            self.made(module, paper, {step[0] for step in paper})
            self.assertEqual(judged(module, paper), later)
            self.same_ends(module, later, paper)

    def test_still(self):
        module = admitted_text(TEXT)
        self.assertIs(still(module, []), True)
        self.assertIs(still(module, ["tails", "merge", "turn"]), True)
        self.assertIs(still(module, ["tails", "promote", "merge"]), False)
        for rng in sources(30, seed=2):
            module = any_module(rng)
            names = rng.choices(PASSES, k=3)
            self.assertIs(still(module, names), all(TOLD[name](module) == () for name in names))

    def test_rounds(self):
        module = admitted_text(TEXT)
        self.assertEqual(rounds_told(module, [], 0), (module, (), 0))
        self.assertEqual(rounds_told(module, [], 1), (module, (), 1))
        self.assertEqual(rounds_told(module, [], 9), (module, (), 1))
        self.assertEqual(rounds_told(module, ["promote"], 0), (module, (), 0))
        self.assertEqual(rounds_told(module, ["tails"], 5), (module, (), 1))
        once, paper = optimised(module, ["promote"])
        self.assertEqual(rounds_told(module, ["promote"], 1), (once, paper, 1))
        self.assertEqual(rounds_told(module, ["promote"], 2), (once, paper, 2))
        self.assertEqual(rounds_told(module, ["promote"], 7), (once, paper, 2))

    def test_rounds_that_end_by_themselves_or_by_most(self):
        ended = cut = 0
        for rng in sources(60, seed=3):
            module = any_module(rng)
            names, most = rng.choices(PASSES, k=rng.randint(1, 6)), rng.randint(0, 4)
            later, paper, rounds = rounds_told(module, names, most)
            now, steps, done = module, (), 0
            while done < most:
                now, more = optimised(now, names)
                steps, done = steps + more, done + 1
                if not more:
                    break
            self.assertEqual((later, paper, rounds), (now, steps, done))
            self.assertTrue(rounds == most or still(later, names))
            self.assertEqual(judged(module, paper), later)
            ended, cut = ended + (rounds < most), cut + (rounds == most)
        self.assertGreater(min(ended, cut), 10)

    def test_rows_that_lead_round_and_round(self):
        """What lands is made clean again: only `most` ends such a row."""
        module = admitted_text("define i8 @main(){ b0(): $0 = input i1 branch $0, b1(), b2() b1(): $1 = input i1 branch $1, b1(), b2() b2(): return 0 }")
        later, paper, rounds = rounds_told(module, ["landings", "clean"], 5)
        self.assertEqual(rounds, 5)
        self.assertGreaterEqual(len(paper), 10)
        self.assertFalse(still(later, ["landings", "clean"]))

    def test_sizes(self):
        module = admitted_text(TEXT)
        self.assertEqual(size_of(module), 2 + 4 + 7 + 1)
        self.assertEqual(size_of(admitted_text("define i8 @main(){ b0(): return 0 }")), 1)
        self.assertEqual(size_of(admitted_text("define i8 @f(){ b0(): return 0 b1(): $0 = input i8 stop } define i8 @main(){ b0(): return 0 }")), 4)
        self.assertEqual(growth(module, []), (14,))
        self.assertEqual(growth(module, ["promote", "inline", "clean", "dead", "tidy"])[0], 14)

    def test_growth(self):
        for rng in sources(40, seed=4):
            module = any_module(rng)
            names = rng.choices(PASSES, k=rng.randint(0, 5))
            sizes = [sum(len(block[2]) + 1 for function in module[1] for block in function[3])]
            now = module
            for name in names:
                now = optimised(now, [name])[0]
                sizes.append(size_of(now))
            self.assertEqual(growth(module, names), tuple(sizes))

    def test_whole(self):
        self.assertEqual(whole(TEXT, []), module_text(read_module(TEXT)))
        self.assertEqual(whole(TEXT, PASSES), module_text(optimised(read_module(TEXT), PASSES)[0]))
        for text, error, at in (("", InvalidModule, 0), ("define", InvalidText, 6), (None, InvalidText, 0), (b"", InvalidText, 0), ("define i8 @main(){ b0(): return $0 }", InvalidModule, 2), ("define i8 @f(){ b0(): return 1 }", InvalidModule, 3),
                                ("define void @main(){ b0(): return }", InvalidModule, 0), ("hello", InvalidText, 0), (7, InvalidText, 0)):
            for names in ([], ["clean"], None, ["peel"]):
                self.asked_wrong(error, at, whole, text, names)


if __name__ == "__main__":
    unittest.main()
