"""[79]: desks."""

import unittest

from anypasses.builds import Build
from anypasses.desk import Desk
from anypasses.errors import InvalidCommand, InvalidModule, InvalidText
from anypasses.machine import run_module
from anypasses.rows import PASSES, pass_paper, size_of, still
from anypasses.writing import module_text
from making import sources
from passing import any_module
from test_rows import TEXT

COUNT = "define i8 @main(){ b0(): $0 = input i8 jump b1($0) b1(i8 $1): print i8 $1 $2 = sub i8 $1, 1 $3 = cmp eq i8 $2, 0 branch $3, b2(), b1($2) b2(): $4 = input i8 $5 = udiv i8 9, $4 return $5 }"


class Desks(unittest.TestCase):
    def wrong(self, desk, command):
        build = desk.build
        before = None if build is None else (build.module(), build.paper(), len(build))
        with self.assertRaises(InvalidCommand):
            desk.say(command)
        self.assertIs(desk.build, build)
        self.assertEqual(before, None if build is None else (build.module(), build.paper(), len(build)))

    def desk(self, text=TEXT):
        desk = Desk()
        self.assertEqual(desk.load(text), "ok")
        return desk

    def test_without_a_build(self):
        desk = Desk()
        self.assertIsNone(desk.build)
        for command in ("do clean", "run 9", "run 9 1 2", "size", "steps", "still", "still clean", "undo", "", "hello"):
            self.wrong(desk, command)
        self.assertIsNone(desk.build)

    def test_load(self):
        desk = self.desk()
        self.assertIsInstance(desk.build, Build)
        first = desk.build
        desk.say("do clean")
        self.assertEqual(desk.load(text=TEXT), "ok")
        self.assertIsNot(desk.build, first)
        self.assertEqual((len(desk.build), desk.say("steps")), (0, "0"))

    def test_texts_that_cannot_be_loaded(self):
        for desk in (Desk(), self.desk()):
            build = desk.build
            for text, error, at in (("", InvalidModule, 0), ("define", InvalidText, 6), (None, InvalidText, 0), (7, InvalidText, 0), ("define i8 @main(){ b0(): return $0 }", InvalidModule, 2)):
                with self.assertRaises(error) as caught:
                    desk.load(text)
                self.assertEqual(caught.exception.at, at)
                self.assertIs(desk.build, build)

    def test_do_and_undo(self):
        desk = self.desk()
        steps = 0
        for name in PASSES:
            wanted = len(pass_paper(desk.build.module(), name))
            self.assertEqual(desk.say("do " + name), str(wanted))
            steps += wanted
            self.assertEqual(desk.say("steps"), str(steps))
            self.assertEqual(desk.say("size"), str(size_of(desk.build.module())))
        for _ in PASSES:
            self.assertEqual(desk.say("undo"), "ok")
        self.assertEqual((desk.say("undo"), desk.say("undo"), desk.say("steps")), ("nothing", "nothing", "0"))
        self.assertEqual(desk.build.module(), desk.build.first())

    def test_run(self):
        desk = self.desk(COUNT)
        for command, told in (("run 100 3 4", "3 2 1 = 2"), ("run 100 2 0", "2 1 ! divide"), ("run 100 1", "1 ! input"), ("run 100", "! input"), ("run 0", "..."), ("run 0 1 2 3", "..."), ("run 3 7", "7 ..."),
                              ("run 1 7", "..."), ("run 100 259 3 9 9 9", "3 2 1 = 3"), ("run 100 1 1", "1 = 9"), ("run 999999999 1 3", "1 = 3"), ("run 100 999999999 3", desk.say("run 100 255 3"))):
            self.assertEqual(desk.say(command), told, command)
        self.assertEqual(self.desk("define i8 @main(){ b0(): stop }").say("run 1"), "! stop")
        self.assertEqual(self.desk("@t = global i8 [1] define i8 @main(){ b0(): $0 = at i8 @t, 1 $1 = load i8 $0 return $1 }").say("run 10"), "! index")
        self.assertEqual(desk.say(command="run 100 1 3"), "1 = 3")

    def test_run_takes_the_module_as_it_is_now(self):
        desk = self.desk(COUNT)
        one = desk.say("run 6 2 1")
        desk.say("do neat")
        desk.say("do constants")
        self.assertEqual(desk.say("run 100 2 1"), "2 1 = 9")
        self.assertEqual(one, "2 ...")

    def test_still(self):
        desk = self.desk()
        self.assertEqual(desk.say("still"), "yes")
        for name in PASSES:
            self.assertEqual(desk.say("still " + name), "yes" if still(desk.build.module(), [name]) else "no")
        self.assertEqual(desk.say("still tails merge tails"), "yes")
        self.assertEqual(desk.say("still tails promote merge"), "no")
        self.assertEqual(desk.say("steps"), "0")

    def test_wrong_commands(self):
        desk = self.desk()
        desk.say("do clean")
        for command in (None, 0, True, b"size", [], ["size"], ("do", "clean"), {}, 1.0, "", " ", "  ", "size ", " size", "size  ", "do  clean", "do clean ", " do clean", "do", "do clean dead", "do peel", "do Clean", "DO clean", "do\tclean",
                        "do clean\n", "size\n", "\nsize", "si\nze", "size\r", "size 1", "size x", "steps 1", "steps now", "undo 1", "undo x", "still x", "still clean x", "still clean  dead", "still ", "run", "run ", "run x", "run 1 x",
                        "run -1", "run 01", "run 00", "run 1 01", "run 1 -1", "run 1.0", "run 1234567890", "run 1 1234567890", "run 0000000001", "run 1  2", "run +1", "run 1_0", "run 1 \u0663", "run \u00b2", "run 0x1", "run 1,2", "load", "load x",
                        "module", "text", "quit", "first", "paper", "judge", "within"):
            self.wrong(desk, command)

    def test_numbers(self):
        desk = self.desk(COUNT)
        for word in ("0", "1", "9", "10", "100", "999999999"):
            self.assertIn(desk.say(f"run {word} 1 3"), ("...", "1 = 3", "1 ...", "1 ..."))

    def test_drawn(self):
        for rng in sources(15):
            module = any_module(rng)
            desk = self.desk(module_text(module))
            for _ in range(5):
                desk.say("do " + rng.choice(PASSES))
                inputs = [rng.randrange(300) for _ in range(rng.randint(0, 4))]
                outputs, end = run_module(desk.build.module(), inputs, 50)
                last = "..." if end is None else ("= " if end[0] == "value" else "! ") + str(end[1])
                self.assertEqual(desk.say(" ".join(["run 50"] + [str(number) for number in inputs])), " ".join([str(number) for number in outputs] + [last]))


if __name__ == "__main__":
    unittest.main()
