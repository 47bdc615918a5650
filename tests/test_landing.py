"""[66]: landing blocks."""

import unittest

from anypasses.errors import InvalidQuestion
from anypasses.landing import has_landings, landing_block, pass_landings
from anypasses.loops import loops_of
from loose_oracle import ways_into
from making import sources, web_function
from passing import MAIN, Passes, any_module
from stepping import admitted_text, flat

HEAD = "define i8 @f(i8, i1){ "


def outer_by_words(function, head):
    labels = dict(loops_of(function))[head]
    return [(block, at) for block, at in ways_into(function, head) if block[0] not in labels]


def landing_by_words(function, head):
    outer = outer_by_words(function, head)
    return outer[0][0][0] if len(outer) == 1 and outer[0][0][3][0] == "jump" else None


class Landing(Passes, unittest.TestCase):
    def check(self, module):
        paper = pass_landings(module)
        lacking = [(function[0], head) for function in module[1] for head, _ in loops_of(function) if landing_by_words(function, head) is None]
        self.assertIs(has_landings(module), lacking == [])
        self.assertEqual(sorted((step[1], step[2]) for step in paper), sorted(lacking))
        _, later = self.made(module, paper, ("land",))
        self.assertIs(has_landings(later), True)
        self.assertEqual(pass_landings(later), ())
        for old, new in zip(module[1], later[1]):
            self.assertEqual([head for head, _ in loops_of(old)], [head for head, _ in loops_of(new)])
            for head, labels in loops_of(old):
                self.assertEqual(landing_block(old, head), landing_by_words(old, head))
                landing = landing_block(new, head)
                self.assertEqual(landing, landing_by_words(new, head))
                self.assertEqual(landing_block(old, head) is not None, landing in [block[0] for block in old[3]])
                self.assertLessEqual(set(labels), set(dict(loops_of(new))[head]))
        return paper, later

    def leads(self, body, later):
        paper, new = self.check(admitted_text(HEAD + body + "}" + MAIN))
        self.assertEqual(flat(new), flat(admitted_text(HEAD + later + "}" + MAIN)))
        return paper

    def landing(self, body, head):
        return landing_block(admitted_text(HEAD + body + "}" + MAIN)[1][0], head)

    def test_there_or_not(self):
        for body, told in (
                ("b0(): jump b1() b1(): branch $1, b1(), b2() b2(): return 0", 0), ("b0(): branch $1, b1(), b2() b1(): branch $1, b1(), b2() b2(): return 0", None),
                ("b0(): branch $1, b1(), b3() b3(): jump b1() b1(): branch $1, b1(), b2() b2(): return 0", None), ("b0(): branch $1, b1(), b1() b1(): jump b1()", None),
                ("b0(): branch $1, b3(), b2() b3(): jump b1() b1(): branch $1, b1(), b2() b2(): return 0", 3), ("b0(): jump b1() b1(): jump b1() b3(): jump b1()", None),
                ("b0(): jump b1() b1(): branch $1, b4(), b2() b4(): jump b1() b2(): return 0", 0), ("b0(): jump b1() b1(): jump b1() b3(): stop", 0)):
            self.assertEqual(self.landing(body, 1), told, body)
            self.check(admitted_text(HEAD + body + "}" + MAIN))

    def test_what_is_no_head(self):
        function = admitted_text(HEAD + "b0(): jump b1() b1(): branch $1, b1(), b2() b2(): return 0 b3(): jump b3() }" + MAIN)[1][0]
        for value in (0, 2, 3, 4, -1, True, None, "1", 1.0, (1,), [], {}, b"", (1, 1)):
            self.asked_wrong(InvalidQuestion, 0, landing_block, function, value)
        self.assertEqual(landing_block(function, 1), 0)

    def test_by_hand(self):
        paper = self.leads("b0(): branch $1, b1($0), b2() b2(): jump b1(7) b1(i8 $2): branch $1, b1($2), b3() b3(): return $2",
                           "b0(): branch $1, b4($0), b2() b2(): jump b4(7) b1(i8 $2): branch $1, b1($2), b3() b3(): return $2 b4(i8 $3): jump b1($3)")
        self.assertEqual(paper, (("land", "f", 1, ((0, 0), (2, 0))),))

    def test_within_one_another(self):
        """The landing block of an inner loop is in the outer one; the head of the outer one may be the inner one's landing block."""
        self.leads("b0(): jump b1() b1(): jump b2() b2(): branch $1, b2(), b3() b3(): branch $1, b1(), b4() b4(): return 0",
                   "b0(): jump b1() b1(): jump b2() b2(): branch $1, b2(), b3() b3(): branch $1, b1(), b4() b4(): return 0")
        self.leads("b0(): jump b1() b1(): branch $1, b2(), b3() b2(): branch $1, b2(), b3() b3(): branch $1, b1(), b4() b4(): return 0",
                   "b0(): jump b1() b1(): branch $1, b5(), b3() b2(): branch $1, b2(), b3() b3(): branch $1, b1(), b4() b4(): return 0 b5(): jump b2()")

    def test_side_by_side(self):
        """What leaves one loop may enter the next one."""
        self.leads("b0(): branch $1, b1(), b2() b1(): branch $1, b1(), b2() b2(): branch $1, b2(), b3() b3(): return 0",
                   "b0(): branch $1, b4(), b5() b1(): branch $1, b1(), b5() b2(): branch $1, b2(), b3() b3(): return 0 b4(): jump b1() b5(): jump b2()")

    def test_several_turns(self):
        self.leads("b0(): jump b1() b1(): branch $1, b2(), b3() b2(): jump b1() b3(): branch $1, b1(), b4() b4(): return 0",
                   "b0(): jump b1() b1(): branch $1, b2(), b3() b2(): jump b1() b3(): branch $1, b1(), b4() b4(): return 0")

    def test_rings_that_no_label_dominates(self):
        module = admitted_text(HEAD + "b0(): branch $1, b1(), b2() b1(): jump b2() b2(): branch $1, b1(), b3() b3(): return 0 }" + MAIN)
        self.assertEqual(self.check(module)[0], ())

    def test_unreached_blocks(self):
        """A way from a block that is not reached is an outer one; a ring of such blocks is no loop."""
        paper = self.leads("b0(): jump b1() b1(): branch $1, b1(), b2() b2(): return 0 b3(): branch $1, b1(), b3()",
                           "b0(): jump b4() b1(): branch $1, b1(), b2() b2(): return 0 b3(): branch $1, b4(), b3() b4(): jump b1()")
        self.assertEqual(paper, (("land", "f", 1, ((0, 0), (3, 0))),))

    def test_drawn(self):
        many = 0
        for rng in sources(200):
            module = any_module(rng)
            paper, later = self.check(module)
            many += len(paper)
            self.same_ends(module, later, paper)
        self.assertGreater(many, 80)

    def test_webs(self):
        for rng in sources(200, seed=1):
            module = ((), (web_function(rng, 9), ("main", (), 8, ((0, (), (), ("return", ("n", 0))),))))
            self.check(module)


if __name__ == "__main__":
    unittest.main()
