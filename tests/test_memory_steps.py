"""[42]: steps on what is loaded and stored."""

import unittest

from anypasses.flow_steps import apply_flow
from anypasses.memory_steps import MEMORY_WORDS, apply_memory, told_cells
from anypasses.parts import value_types
from drawing import Drawer, spoilt
from lively import lively_module
from making import admitted_module, sources
from memory_oracle import told_memory, told_offsets
from stepping import Steps, admitted_text, outcome

MAIN = " define i8 @main(){ b0(): return 0 }"
CELL = "define i8 @main(){ b0(): $0 = alloca i8, 1 store i8 7, $0 $1 = load i8 $0 return $1 }"
LOOP = """define i8 @main(){ b0(): $0 = alloca i8, 2 $1 = at i8 $0, 1 $9 = input i8 store i8 $9, $1 jump b1() b1(): $2 = load i8 $1 $3 = cmp ult i8 $2, 9
    branch $3, b2(), b3() b2(): $4 = load i8 $1 $5 = add i8 $4, 1 store i8 $5, $1 $6 = load i8 $0 print i8 $6 jump b1() b3(): $7 = load i8 $1 return $7 }"""


class MemoryCase(unittest.TestCase, Steps):
    apply = staticmethod(apply_memory)

    def drawn(self, word, module, new):
        self.alike(module, new)

    def told(self, text, step):
        found = outcome(apply_memory, admitted_text(text), step)
        return found if type(found) is int else None


class MemorySteps(MemoryCase):
    def test_words(self):
        self.assertEqual(MEMORY_WORDS, ("forward", "load_out", "promote", "store_out"))

    def test_junk(self):
        text = "define i8 @main(){ b0(): $0 = alloca i8, 1 store i8 7, $0 jump b1() b1(): $1 = load i8 $0 return $1 }"
        self.junk(text, ("forward", "main", 1, ((1, ("n", 7)),)))
        self.junk(text.replace("return $1", "return 0"), ("load_out", "main", 1))
        self.junk(text, ("promote", "main", 0, ((1, (("n", 7),)),)))
        self.junk(text.replace("$1 = load i8 $0 return $1", "return 0"), ("store_out", "main", 0, 1, ("unread", (), (1,))))

    def test_what_is_no_step(self):
        module = admitted_text(CELL)
        for step in ((), ("forward",), ("forward", "main", 1), ("load_out", "main", 1, ()), ("take_out", "main", 1), ["load_out", "main", 1], None, 0, "promote",
                     (["load_out"], "main", 1), ("store_out", "main", 0, 1), (None, "main", 1, ())):
            self.assertEqual(outcome(apply_memory, module, step), 0, step)
        for name in ("nothing", "", None, 0, ["main"], ("main",), b"main", True):
            for step in (("forward", name, 1, ()), ("load_out", name, 1), ("store_out", name, 0, 1, ("same", ())), ("promote", name, 0, ())):
                self.assertEqual(outcome(apply_memory, module, step), 1, step)

    def test_against_the_words(self):
        found = self.against(told_memory, MEMORY_WORDS, 350)
        for word, ats in (("forward", (0, 1, 2, 3)), ("load_out", (0, 1, 2)), ("store_out", (0, 1, 2, 3, 4)), ("promote", (0, 1, 2))):
            for at in ats + ("fits",):
                self.assertGreater(found.get((word, at), 0), 3, (word, at))


class Forward(MemoryCase):
    def test_by_hand(self):
        self.fits(CELL, ("forward", "main", 1, ()), "define i8 @main(){ b0(): $0 = alloca i8, 1 store i8 7, $0 return 7 }")
        text = "define i8 @f(ptr, i1){ b0(): $2 = load i8 $0 branch $1, b1(), b2($2) b1(): $3 = load i8 $0 jump b2($3) b2(i8 $4): $5 = load i8 $0 print i8 $5 return $5 }" + MAIN
        self.fits(text, ("forward", "f", 3, ((1, ("v", 2)),)), text.replace("$3 = load i8 $0 jump b2($3)", "jump b2($2)"))
        for paper in (((2, ("v", 4)),), ((1, ("v", 2)), (2, ("v", 4)))):
            self.fits(text, ("forward", "f", 5, paper), text.replace("$5 = load i8 $0 print i8 $5 return $5", "print i8 $4 return $4"))
        for value, paper, at in ((3, (), 3), (2, (), 3), (5, (), 3), (5, ((1, ("v", 2)),), 3), (3, ((1, ("v", 3)),), 3), (3, ((1, ("v", 2)), (2, ("v", 2))), 3), (4, (), 2), (0, (), 2),
                                 (6, (), 2), (True, (), 2), (3, None, 3), (3, [], 3), (3, ((1, ("v", 2)), (1, ("v", 2))), 3)):
            self.refused(text, ("forward", "f", value, paper), at)

    def test_its_own_value(self):
        """What is ahead of the load must be another operand; only unreached blocks can have the load's own."""
        text = "define i8 @main(){ b0(): return 0 b1(): $0 = alloca i8, 1 store i8 $1, $0 $1 = load i8 $0 $2 = load i8 $0 print i8 $2 jump b1() }"
        self.refused(text, ("forward", "main", 1, ()), 3)
        self.fits(text, ("forward", "main", 2, ()), text.replace("$2 = load i8 $0 print i8 $2", "print i8 $1"))

    def test_what_stands_between(self):
        for between, told in (("", None), ("store i8 3, $1", 3), ("store i16 3, $1", None), ("$9 = call @f($0, $1)", 3), ("$9 = input i8", None), ("$9 = at i8 $0, 1 store i8 4, $9", None),
                              ("$9 = at i8 $0, $2 store i8 4, $9", 3), ("$9 = load i8 $1", None), ("$9 = alloca i8, 1 store i8 4, $9", None), ("store i8 7, @t", 3)):
            text = "@t = global i8 [0] define i8 @f(ptr, ptr){ b0(): $2 = input i8 store i8 $2, $0 " + between + " $3 = load i8 $0 return $3 }" + MAIN
            self.assertEqual(self.told(text, ("forward", "f", 3, ())), told, between)


class LoadOut(MemoryCase):
    def test_by_hand(self):
        text = """@t = global i8 [1] define i8 @f(ptr){ b0(): $1 = alloca i8, 2 $2 = at i8 $1, 1 $3 = load i8 $2 $4 = at i8 $1, 2 $5 = load i8 $4 $6 = load i8 @t $7 = load i16 @t
            $8 = load i8 $0 $9 = load i8 $1 return $9 }""" + MAIN
        self.fits(text, ("load_out", "f", 3), text.replace("$3 = load i8 $2", ""))
        self.fits(text, ("load_out", "f", 6), text.replace("$6 = load i8 @t", ""))
        for value in (0, 1, 2, 4, 5, 7, 8, 9, 10, True, None, "3", [3]):
            self.refused(text, ("load_out", "f", value), 2)
        self.refused("define i8 @main(){ b0(): $0 = alloca i8, 1 return 0 b1(): $1 = load i8 $0 print i8 $1 stop }", ("load_out", "main", 1), 2)


class StoreOut(MemoryCase):
    def test_same(self):
        text = "define i8 @f(ptr){ b0(): $1 = load i8 $0 store i8 $1, $0 store i8 3, $0 jump b1() b1(): store i8 3, $0 store i8 4, $0 return 0 }" + MAIN
        self.fits(text, ("store_out", "f", 0, 1, ("same", ())), text.replace("store i8 $1, $0", ""))
        self.fits(text, ("store_out", "f", 1, 0, ("same", ((1, ("n", 3)),))), text.replace("b1(): store i8 3, $0", "b1():"))
        for label, index, reason, at in ((1, 0, ("same", ()), 4), (1, 1, ("same", ((1, ("n", 3)),)), 4), (1, 0, ("same", ((1, ("n", 4)),)), 4), (0, 2, ("same", ()), 4), (0, 0, ("same", ()), 3),
                                         (0, 3, ("same", ()), 3), (1, 2, ("same", ()), 3), (2, 0, ("same", ()), 2), (0, 1, ("same",), 4), (0, 1, ("same", (), ()), 4),
                                         (0, 1, ("unread", ()), 4), (0, 1, ["same", ()], 4), (0, 1, (), 4), (0, 1, "same", 4), (0, 1, (("same",), ()), 4), (0, 1, (["same"], ()), 4),
                                         (0, True, ("same", ()), 3), (False, 1, ("same", ()), 2), (0, 1, ("same", None), 4), (0, 1, ("same", [(1, ("n", 3))]), 4)):
            self.refused(text, ("store_out", "f", label, index, reason), at)

    def test_unread(self):
        text = "@t = global i8 [0] define i8 @f(ptr, i1){ b0(): $2 = alloca i8, 2 store i8 3, $2 store i8 4, $2 branch $1, b1(), b2() b1(): store i8 5, $2 return 0 b2(): $3 = load i8 $2 return $3 }" + MAIN
        self.fits(text, ("store_out", "f", 0, 1, ("unread", (), ())), text.replace("store i8 3, $2", ""))
        self.fits(text, ("store_out", "f", 1, 0, ("unread", (), ())), text.replace("store i8 5, $2", ""))
        self.fits(text, ("store_out", "f", 1, 0, ("unread", (), (1,))), text.replace("store i8 5, $2", ""))
        self.fits(text, ("store_out", "f", 1, 0, ("unread", ((1, ("n", 4)),), ())), text.replace("store i8 5, $2", ""))
        for label, index, reason in ((0, 2, ("unread", (), (1,))), (0, 2, ("unread", (), (1, 2))), (1, 0, ("unread", ((1, ("n", 3)),), ())), (1, 0, ("unread", (), (2,))),
                                     (1, 0, ("unread", (), [])), (1, 0, ("unread", [], ())), (1, 0, ("unread", (), None)), (1, 0, ("unread", None, ())), (1, 0, ("unread", (), (1, 1))),
                                     (1, 0, ("unread", (), (True,)))):
            self.refused(text, ("store_out", "f", label, index, reason), 4)

    def test_places_that_may_be_no_cell(self):
        """A store that may trap goes only where a content tells that the cell is there."""
        text = "define i8 @f(ptr){ b0(): $1 = load i8 $0 jump b1() b1(): store i8 3, $0 store i8 4, $0 stop }" + MAIN
        self.refused(text, ("store_out", "f", 1, 0, ("unread", (), ())), 4)
        self.fits(text, ("store_out", "f", 1, 0, ("unread", ((1, ("v", 1)),), ())), text.replace("store i8 3, $0", ""))
        self.fits(text, ("store_out", "f", 1, 1, ("unread", (), ())), text.replace("store i8 4, $0", ""))
        self.refused(text, ("store_out", "f", 0, 0, ("unread", (), ())), 3)
        outside = "define i8 @main(){ b0(): $0 = alloca i8, 1 $1 = at i8 $0, 1 store i8 3, $1 return 0 }"
        self.refused(outside, ("store_out", "main", 0, 2, ("unread", (), ())), 4)
        self.fits(outside.replace("at i8 $0, 1", "at i8 $0, 0"), ("store_out", "main", 0, 2, ("unread", (), ())),
                  outside.replace("at i8 $0, 1", "at i8 $0, 0").replace("store i8 3, $1", ""))


class Promote(MemoryCase):
    def test_one_cell(self):
        self.fits(CELL, ("promote", "main", 0, ()), "define i8 @main(){ b0(): return 7 }")
        self.fits("define i8 @main(){ b0(): $0 = alloca i8, 1 $1 = load i8 $0 return $1 }", ("promote", "main", 0, ()), "define i8 @main(){ b0(): return 0 }")
        self.fits("define i8 @main(){ b0(): $0 = alloca i8, 1 $1 = at i8 $0, 5 jump b1() b1(): return 3 }", ("promote", "main", 0, ((1, ()),)),
                  "define i8 @main(){ b0(): jump b1() b1(): return 3 }")

    def test_a_loop_with_two_cells(self):
        """The cell 0 is 0 throughout, the cell 1 counts."""
        cells = told_cells(admitted_text(LOOP)[1][0], 0)
        self.assertEqual(cells, (0, 1))
        new = """define i8 @main(){ b0(): $9 = input i8 jump b1($9) b1(i8 $20): $3 = cmp ult i8 $20, 9 branch $3, b2(), b3()
            b2(): $5 = add i8 $20, 1 print i8 0 jump b1($5) b3(): return $20 }"""
        few = (("n", 0), ("new", 20)), (("n", 0), ("v", 20)), (("n", 0), ("v", 20))
        self.fits(LOOP, ("promote", "main", 0, tuple(zip((1, 2, 3), few))), new)
        self.fits(LOOP, ("promote", "main", 0, tuple(zip((1, 2, 3), (few[0], (("n", 0), ("v", 2)), (("n", 0), ("v", 2)))))), new)
        self.fits(LOOP, ("promote", "main", 0, tuple((label, (("new", 20 + label), ("new", 30 + label))) for label in (1, 2, 3))),
                  """define i8 @main(){ b0(): $9 = input i8 jump b1(0, $9) b1(i8 $21, i8 $31): $3 = cmp ult i8 $31, 9 branch $3, b2($21, $31), b3($21, $31)
                  b2(i8 $22, i8 $32): $5 = add i8 $32, 1 print i8 $22 jump b1($22, $5) b3(i8 $23, i8 $33): return $33 }""")
        for at, spoilt in enumerate(((("n", 1), ("new", 20)), (("n", 0), ("v", 9)), (("n", 0), ("v", 20)), (("n", 0),), (("n", 0), ("new", 20), ("n", 0)), (("n", 0), ("new", 9)),
                                     (("new", 20), ("new", 20)), (("n", 0), ("new", True)), (("n", 0), ("new", -1)), (("n", 0), ("old", 20)), [("n", 0), ("new", 20)],
                                     (("n", 0), ["new", 20]), (("n", 0), ("new", 20, 0)), (("n", 0), None), (("n", False), ("new", 20)), None)):
            self.refused(LOOP, ("promote", "main", 0, ((1, spoilt), (2, few[1]), (3, few[2]))), 3)
        for spoilt in ((("n", 0), ("v", 5)), (("n", 0), ("v", 4)), (("n", 0), ("v", 3)), (("n", 1), ("v", 20)), (("v", 6), ("v", 20)), (("n", 0), ("new", 20)), (("n", 0), ("v", 21)),
                       (("n", 0), ("n", 9))):
            self.refused(LOOP, ("promote", "main", 0, ((1, few[0]), (2, spoilt), (3, few[2]))), 3)
        rows = tuple(zip((1, 2, 3), few))
        for paper in (rows[:2], rows[1:], rows + ((4, few[0]),), ((0, (("n", 0), ("n", 0))),) + rows, rows[::-1], list(rows), (rows[0], rows[0], rows[2]), rows[:2] + ((3.0, few[2]),),
                      rows[:2] + ((3, few[2], 0),), rows[:2] + (None,), ((True, few[0]),) + rows[1:], None, (), 0):
            self.refused(LOOP, ("promote", "main", 0, paper), 3)

    def test_loaded_values_mean_what_is_ahead(self):
        """An entry may be a value that is loaded from the cells, though this stands nowhere near."""
        text = """define i8 @f(i1, i8){ b0(): $2 = alloca i8, 1 store i8 $1, $2 branch $0, b1(), b2() b1(): $3 = load i8 $2 print i8 $3 jump b3()
            b2(): jump b3() b3(): $4 = load i8 $2 return $4 }""" + MAIN
        for one, other, last in ((1, 1, 1), (1, 3, 3), (1, 3, 1), (1, 4, 1)):
            self.fits(text, ("promote", "f", 2, ((1, (("v", one),)), (2, (("v", other),)), (3, (("v", last),)))), """define i8 @f(i1, i8){ b0(): branch $0, b1(), b2()
                b1(): print i8 $1 jump b3() b2(): jump b3() b3(): return $1 }""" + MAIN)
        self.refused(text, ("promote", "f", 2, ((1, (("v", 3),)), (2, (("v", 1),)), (3, (("v", 1),)))), 3)
        self.refused(text, ("promote", "f", 2, ((1, (("v", 4),)), (2, (("v", 1),)), (3, (("v", 3),)))), 3)

    def test_what_means_itself(self):
        """Round a ring each content would be a load that means the next one; each load of a cell has something ahead of it."""
        ring = """define i8 @main(){ b0(): $0 = alloca i8, 1 jump b1() b1(): $1 = load i8 $0 jump b2() b2(): $2 = load i8 $0 $3 = input i1 branch $3, b1(), b3()
            b3(): return $2 }"""
        zero = ("n", 0)
        self.fits(ring, ("promote", "main", 0, ((1, (zero,)), (2, (("v", 1),)), (3, (("v", 2),)))), """define i8 @main(){ b0(): jump b1() b1(): jump b2()
            b2(): $3 = input i1 branch $3, b1(), b3() b3(): return 0 }""")
        for paper in (((1, (("v", 2),)), (2, (("v", 1),)), (3, (zero,))), ((1, (("v", 1),)), (2, (("v", 1),)), (3, (("v", 1),))), ((1, (("v", 1),)), (2, (zero,)), (3, (zero,)))):
            self.refused(ring, ("promote", "main", 0, paper), 3)

    def test_contents_that_are_lost(self):
        """A content that is a value is none behind the op that makes this value anew."""
        text = """define i8 @main(){ b0(): $0 = alloca i8, 2 $1 = at i8 $0, 1 store i8 5, $1 jump b1() b1(): $2 = load i8 $1 $3 = load i8 $0 print i8 $3
            $4 = input i1 branch $4, b1(), b2() b2(): return $2 }"""
        five, zero = ("n", 5), ("n", 0)
        self.fits(text, ("promote", "main", 0, ((1, (zero, five)), (2, (zero, five)))), """define i8 @main(){ b0(): jump b1() b1(): print i8 0 $4 = input i1
            branch $4, b1(), b2() b2(): return 5 }""")
        both = text.replace("store i8 5, $1", "store i8 5, $1 store i8 5, $0")
        self.refused(both, ("promote", "main", 0, ((1, (("v", 2), five)), (2, (five, five)))), 3)
        self.refused(both, ("promote", "main", 0, ((1, (("v", 3), five)), (2, (five, five)))), 3)
        self.fits(both.replace("$3 = load i8 $0 print i8 $3", "store i8 5, $0"), ("promote", "main", 0, ((1, (("v", 2), five)), (2, (five, five)))), """define i8 @main(){ b0(): jump b1() b1(): $4 = input i1
            branch $4, b1(), b2() b2(): return 5 }""")

    def test_contents_that_are_lost_on_the_way(self):
        """What a block has lost it cannot hand on, and no load, used or not, may find it."""
        text = """define i8 @main(){ b0(): $0 = alloca i8, 2 $1 = at i8 $0, 1 store i8 5, $1 store i8 5, $0 jump b1() b1(): $2 = load i8 $1 jump b2()
            b2(): $3 = load i8 $0 return $3 }"""
        five = ("n", 5)
        self.refused(text, ("promote", "main", 0, ((1, (("v", 2), five)), (2, (("new", 50), five)))), 3)
        self.refused(text, ("promote", "main", 0, ((1, (("v", 2), five)), (2, (five, five)))), 3)
        self.fits(text, ("promote", "main", 0, ((1, (five, five)), (2, (("new", 50), five)))), """define i8 @main(){ b0(): jump b1() b1(): jump b2(5) b2(i8 $50): return $50 }""")
        unused = text.replace("jump b2()\n            b2(): $3 = load i8 $0 return $3", "$3 = load i8 $0 return 0")
        self.refused(unused, ("promote", "main", 0, ((1, (("v", 2), five)),)), 3)
        self.fits(unused, ("promote", "main", 0, ((1, (five, five)),)), "define i8 @main(){ b0(): jump b1() b1(): return 0 }")

    def test_numbers_like_those_of_loads(self):
        """A stored number is no loaded value, though it may be its number."""
        self.fits("define i8 @main(){ b0(): $0 = alloca i8, 1 store i8 1, $0 $1 = load i8 $0 return $1 }", ("promote", "main", 0, ()), "define i8 @main(){ b0(): return 1 }")

    def test_new_values(self):
        text = "define i8 @main(){ b0(): $0 = alloca i8, 1 $2 = input i8 store i8 $2, $0 jump b1(3) b1(i8 $3): $4 = load i8 $0 return $4 }"
        for new in (1, 5, 77, 2 ** 63 - 1):
            self.fits(text, ("promote", "main", 0, ((1, (("new", new),)),)), "define i8 @main(){ b0(): $2 = input i8 jump b1(3, $2) b1(i8 $3, i8 $%d): return $%d }" % (new, new))
        for new in (0, 2, 3, 4, True, -1, 1.0, "7", None, (7,), 2 ** 64):
            self.refused(text, ("promote", "main", 0, ((1, (("new", new),)),)), 3)

    def test_what_cannot_be_promoted(self):
        for body, told in (("$1 = at i8 $0, $9 return 0", 2), ("jump b1($0) b1(ptr $1): return 0", 2), ("$1 = at i8 $0, 2 $2 = load i8 $1 return 0", 2),
                           ("$1 = at i8 $0, 255 store i8 1, $1 return 0", 2), ("$1 = load i16 $0 return 0", 2), ("return 0 b1(): stop", 2), ("return 0", None),
                           ("$1 = at i8 $0, 2 return 0", None), ("$1 = call @f($0) return 0", 2)):
            text = "define i8 @main(){ b0(): $9 = input i8 $0 = alloca i8, 2 " + body + "} "
            text = text if "@f" not in body else "define i8 @f(ptr){ b0(): return 0 } " + text
            self.assertEqual(self.told(text, ("promote", "main", 0, ())), told, body)
        for value in (1, 9, True, None, "0", [0], 99):
            self.refused(LOOP, ("promote", "main", value, ()), 2)

    def test_an_alloca_in_a_loop(self):
        """Each round its cells are 0 again."""
        text = """define i8 @main(){ b0(): jump b1(3) b1(i8 $1): $0 = alloca i8, 1 $2 = load i8 $0 print i8 $2 store i8 $1, $0 $3 = load i8 $0 $4 = sub i8 $3, 1
            $5 = cmp ne i8 $4, 0 branch $5, b1($4), b2() b2(): $6 = load i8 $0 return $6 }"""
        self.fits(text, ("promote", "main", 0, ((1, (("new", 9),)), (2, (("v", 1),)))), """define i8 @main(){ b0(): jump b1(3, 0) b1(i8 $1, i8 $9): print i8 0 $4 = sub i8 $1, 1
            $5 = cmp ne i8 $4, 0 branch $5, b1($4, $1), b2() b2(): return $1 }""")
        self.refused(text, ("promote", "main", 0, ((1, (("n", 0),)), (2, (("v", 1),)))), 3)

    def test_a_block_entered_twice_from_one_end(self):
        text = """define i8 @f(i1){ b0(): $1 = alloca i8, 1 store i8 4, $1 branch $0, b1(7), b1(8) b1(i8 $2): $3 = load i8 $1 $4 = add i8 $2, $3 return $4 }""" + MAIN
        self.fits(text, ("promote", "f", 1, ((1, (("new", 50),)),)), """define i8 @f(i1){ b0(): branch $0, b1(7, 4), b1(8, 4) b1(i8 $2, i8 $50): $4 = add i8 $2, $50 return $4 }""" + MAIN)

    def test_told_cells(self):
        for rng in sources(150, seed=6):
            module = lively_module(rng) if rng.random() < 0.9 else admitted_module(rng)
            for function in module[1]:
                for value, _ in value_types(module, function):
                    self.assertEqual(told_cells(function, value), told_offsets(module, function, value))
        self.assertEqual(told_cells(admitted_text("define i8 @main(){ b0(): $0 = alloca i8, 4 $1 = at i8 $0, 3 $2 = load i8 $1 $3 = at i8 $1, 254 store i8 3, $3 return 0 b1(): stop }")[1][0], 0), (1, 3))

    def test_drawn_in_reached_blocks(self):
        """Papers with new values everywhere and with few, most of them fit; some are spoilt."""
        fitted = mixed = 0
        for rng in sources(400, seed=7):
            module = lively_module(rng)
            for function in module[1]:
                later = outcome(apply_flow, module, ("drop", function[0]))
                module = module if type(later) is int else later
            step = Drawer(rng, module).step("promote")
            if rng.random() < 0.1:
                step = spoilt(rng, step)
            new = outcome(apply_memory, module, step)
            self.assertEqual(new, told_memory(module, step))
            if type(new) is not int:
                self.sound(module, new)
                self.alike(module, new)
                fitted += 1
                mixed += any(entry[0] != "new" for _, row in step[3] for entry in row)
        self.assertGreater(fitted, 60)
        self.assertGreater(mixed, 10)


if __name__ == "__main__":
    unittest.main()
