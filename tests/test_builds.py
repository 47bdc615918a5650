"""[76], [77]: builds."""

import unittest

from anypasses.admission import module_fault
from anypasses.builds import Build, checked
from anypasses.errors import InvalidModule, InvalidQuestion, InvalidStep, InvalidText
from anypasses.judge import judged
from anypasses.machine import run_module
from anypasses.reading import read_module
from anypasses.rows import PASSES, pass_paper
from anypasses.runs import agree_so_far
from anypasses.writing import module_text
from drawing import Drawer
from making import sources
from passing import Passes, any_module
from stepping import INPUTS
from test_rows import NO_NAMES, TEXT

NO_PAPERS = (None, 0, "clean", [], ["use"], (None,), ((),), (("peel",),), ((["use"],),), {}, b"", [("drop", "f")])


class Builds(Passes, unittest.TestCase):
    def state(self, build):
        return (build.module(), build.first(), build.paper(), build.text(), len(build))

    def kept(self, build):
        """What always holds of a build."""
        self.assertEqual(judged(build.first(), build.paper()), build.module())
        self.assertEqual(build.text(), module_text(build.module()))
        self.assertEqual(read_module(build.text()), build.module())
        self.assertIsNone(module_fault(build.module()))

    def test_as_it_is_read(self):
        build = Build(TEXT)
        module = read_module(TEXT)
        self.assertEqual(self.state(build), (module, module, (), module_text(module), 0))
        self.assertIs(build.undo(), False)
        self.assertEqual(self.state(build), (module, module, (), module_text(module), 0))
        self.assertNotEqual(build, Build(TEXT))
        self.assertEqual(Build(text=TEXT).module(), module)

    def test_texts_that_are_none(self):
        for text, error, at in (("", InvalidModule, 0), ("define", InvalidText, 6), (None, InvalidText, 0), (b"x", InvalidText, 0), ("define i8 @main(){ b0(): return $0 }", InvalidModule, 2), ([], InvalidText, 0)):
            self.asked_wrong(error, at, Build, text)

    def test_deeds(self):
        build = Build(TEXT)
        count = build.do("promote")
        self.assertEqual((count, len(build)), (len(pass_paper(build.first(), "promote")), 1))
        self.assertEqual(build.paper(), pass_paper(build.first(), "promote"))
        self.assertEqual((build.do("promote"), len(build)), (0, 2))
        more = pass_paper(build.module(), "inline")
        self.assertEqual((build.judge(more), len(build)), (len(more), 3))
        self.assertEqual((build.judge(()), len(build)), (0, 4))
        self.assertEqual(build.judge(paper=()), 0)
        self.assertEqual(build.do(name="clean") > 0, True)
        self.kept(build)

    def test_wrong_deeds_change_nothing(self):
        build = Build(TEXT)
        build.do("inline")
        before = self.state(build)
        for value in NO_NAMES:
            self.asked_wrong(InvalidQuestion, 0, build.do, value)
        for value in NO_PAPERS:
            self.asked_wrong(InvalidQuestion, 0, build.judge, value)
        good = pass_paper(build.module(), "clean")
        self.asked_wrong(InvalidStep, 0, build.judge, (("drop", "main"),))
        self.asked_wrong(InvalidStep, len(good), build.judge, good + (("drop", "main"),))
        self.asked_wrong(InvalidStep, 0, build.judge, (("use",),))
        self.assertEqual(self.state(build), before)

    def test_undone_one_by_one(self):
        for rng in sources(20):
            build = Build(module_text(any_module(rng)))
            states = [self.state(build)]
            for _ in range(6):
                if rng.random() < 0.3 and len(build) > 0:
                    self.assertIs(build.undo(), True)
                    states.pop()
                elif rng.random() < 0.5:
                    build.do(rng.choice(PASSES))
                    states.append(self.state(build))
                else:
                    step = Drawer(rng, build.module()).step(rng.choice(("put_in", "land", "twin", "pick", "drop", "take_out")))
                    try:
                        self.assertEqual(build.judge((step,)), 1)
                        states.append(self.state(build))
                    except InvalidStep as error:
                        self.assertEqual(error.at, 0)
                self.assertEqual(self.state(build), states[-1])
                self.kept(build)
            while len(states) > 1:
                states.pop()
                self.assertIs(build.undo(), True)
                self.assertEqual(self.state(build), states[-1])
            self.assertIs(build.undo(), False)

    def test_within(self):
        build = Build(TEXT)
        build.do("inline")
        before = self.state(build)

        def work(one):
            self.assertIs(one, build)
            one.do("neat")
            one.do("tails")
            self.assertEqual(len(one), 3)
            one.undo()
            self.assertEqual(len(one), 2)
            return one.text()

        told = build.within(work)
        self.assertEqual(self.state(build), before)
        build.do("neat")
        self.assertEqual(told, build.text())
        self.assertEqual(build.within(lambda one: None), None)
        self.assertEqual(build.within(work=lambda one: len(one)), 2)

    def test_within_with_an_error(self):
        build = Build(TEXT)
        build.do("inline")
        before = self.state(build)

        def work(one):
            one.do("neat")
            one.do("peel")

        self.asked_wrong(InvalidQuestion, 0, build.within, work)
        self.assertEqual(self.state(build), before)

        def other(one):
            one.do("neat")
            raise KeyError("mine")

        self.assertRaises(KeyError, build.within, other)
        self.assertEqual(self.state(build), before)

    def test_within_within(self):
        build = Build(TEXT)

        def inner(one):
            one.do("clean")
            return len(one)

        def outer(one):
            one.do("inline")
            told = one.within(inner)
            one.do("dead")
            return (told, len(one), one.within(inner))

        self.assertEqual(build.within(outer), (2, 2, 3))
        self.assertEqual(len(build), 0)
        self.assertEqual(build.module(), build.first())

    def test_checked(self):
        for rng in sources(25, seed=1):
            build = Build(module_text(any_module(rng)))
            for name in rng.choices(PASSES, k=4):
                build.do(name)
            for inputs in INPUTS:
                for fuel in (0, 3, 20, 100):
                    self.assertIs(checked(build, inputs, fuel), True)
                    self.assertTrue(agree_so_far(run_module(build.first(), inputs, fuel), run_module(build.module(), inputs, fuel)))
            for value in (None, 1, "1", (-1,), [True], {}, (1.0,), b"1"):
                self.asked_wrong(InvalidQuestion, 1, checked, build, value, 5)


if __name__ == "__main__":
    unittest.main()
