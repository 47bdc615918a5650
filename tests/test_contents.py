"""[40], [41]: contents, and unread places."""

import unittest

from anypasses.contents import content_ahead, content_behind, contents_hold, is_unread, unread_holds
from anypasses.machine import advance, start_state
from anypasses.places import place_of
from drawing import Drawer
from lively import lively_module
from making import admitted_module, sources
from stepping import admitted_text
import memory_oracle
import place_oracle

MAIN = " define i8 @main(){ b0(): return 0 }"
JUNK = (None, 0, True, "", "0", [], {}, (0,), ((),), ((0,),), ((1, ("n", 0)),), [(1, ("n", 0))], b"", 1.0)


def ops_of(function):
    return {op[0]: op for block in function[3] for op in block[2]}


class Behind(unittest.TestCase):
    text = """@t = global i8 [1, 2] define i8 @f(ptr, i8){ b0(): $2 = alloca i8, 2 $3 = at i8 $2, 1 $4 = alloca i8, 2 $5 = at i8 $4, $1 $6 = at i8 $4, 1
        $7 = load i8 $3 store i8 $7, $2 $8 = load i8 $0 store i8 9, $0 $9 = call @f($0, 1) $10 = input i8 print i8 $1 $11 = load i8 @t
        store i8 5, $6 store i16 6, $0 $12 = load i16 $0 $13 = select ptr 1, $0, $4 $14 = add i8 $1, 1 store i8 7, @t $15 = load i8 $13 return 0 }""" + MAIN

    def setUp(self):
        self.module = admitted_text(self.text)
        self.function = self.module[1][0]
        self.ops = self.function[3][0][2]

    def behind(self, text, place, content):
        """The content behind the op of this text."""
        texts = [op for op in self.ops if text in (f"${op[0]}", self.store_text(op), op[1])]
        return content_behind(self.function, place, content, texts[0])

    def store_text(self, op):
        return f"{op[1]} {op[2][0]} {op[3][0][1]}" if op[1] == "store" else op[1]

    def test_each_kind(self):
        cell, shown, param, table = (("v", 2), 0, 8), (("v", 4), 0, 8), (("v", 0), 0, 8), (("g", "t"), 0, 8)
        old = ("n", 77)
        for op, place, content, told in (
                ("$2", cell, None, ("n", 0)), ("$2", cell, old, ("n", 0)), ("$2", (("v", 2), 2, 8), old, None), ("$2", (("v", 2), -1, 8), old, None),
                ("$2", (("v", 2), 0, 16), old, None), ("$2", (("v", 2), 1, 8), None, ("n", 0)), ("$2", shown, old, old), ("$4", shown, old, ("n", 0)),
                ("$5", (("v", 5), 0, 8), old, None), ("$13", (("v", 13), 0, 8), old, None), ("$5", shown, old, old),
                ("$7", (("v", 2), 1, 8), None, ("v", 7)), ("$7", (("v", 2), 1, 8), old, ("v", 7)), ("$7", cell, old, old), ("$7", cell, ("v", 7), None), ("$7", cell, None, None),
                ("store 8 7", cell, old, ("n", 7)), ("store 8 9", param, None, ("n", 9)), ("store 8 9", param, old, ("n", 9)), ("store 8 9", cell, old, old),
                ("store 8 9", shown, old, old), ("store 8 9", table, old, None), ("store 8 9", (("v", 0), 1, 8), old, old), ("store 8 9", (("v", 13), 0, 8), old, None),
                ("store 8 9", (("v", 0), 0, 16), old, old), ("store 8 5", shown, old, old), ("store 8 5", (("v", 4), 1, 8), old, ("n", 5)),
                ("store 8 5", (("v", 5), 0, 8), old, None), ("store 16 6", param, old, old), ("store 16 6", (("v", 0), 0, 16), old, ("n", 6)),
                ("call", cell, old, old), ("call", shown, old, None), ("call", param, old, None), ("call", table, old, None), ("$9", cell, ("v", 9), None),
                ("$10", cell, ("v", 10), None), ("$10", cell, ("v", 11), ("v", 11)), ("$10", cell, ("g", "t"), ("g", "t")), ("print", table, old, old),
                ("$11", table, old, ("v", 11)), ("$11", (("g", "t"), 1, 8), old, old), ("$11", (("g", "t"), 0, 16), old, old), ("$12", param, old, old),
                ("$12", (("v", 0), 0, 16), None, ("v", 12)), ("$14", param, ("v", 14), None), ("$14", param, ("v", 1), ("v", 1)), ("$15", table, old, old),
                ("$15", (("v", 13), 0, 8), old, ("v", 15))):
            if op == "store 8 7":
                found = content_behind(self.function, place, content, self.ops[6])
                self.assertEqual(found, ("v", 7))
            else:
                self.assertEqual(self.behind(op, place, content), told, (op, place, content))

    def test_against_the_words(self):
        for rng in sources(80):
            module = lively_module(rng)
            drawer = Drawer(rng, module)
            function = drawer.function
            pointers = [("v", value) for value, kind in drawer.kinds.items() if kind == "ptr"] + [("g", place[0]) for place in module[0]]
            for operand in pointers:
                spot = place_oracle.place(function, operand, rng.choice((8, 8, 8, 16)))
                if spot is None:
                    continue
                for op in drawer.ops:
                    for content in (None, ("n", 3), drawer.operand(8), ("v", op[0]) if op[0] is not None else None):
                        told = place_oracle.behind(module, function, spot, content, op)
                        self.assertEqual(content_behind(function, spot, content, op), told)


class Papers(unittest.TestCase):
    text = """define i8 @f(i8, ptr, i1){ b0(): $3 = alloca i8, 2 store i8 $0, $3 branch $2, b1($0), b2() b1(i8 $4): branch $2, b3($0, 5), b3($0, 4)
        b2(): jump b3($0, 6) b3(i8 $5, i8 $6): $7 = load i8 $3 store i8 $7, $3 branch $2, b3($7, 7), b4($3) b4(ptr $8): return 0 b7(): jump b3(1, 2) }""" + MAIN
    place = (("v", 3), 0, 8)

    def setUp(self):
        self.module = admitted_text(self.text)
        self.function = self.module[1][0]

    def holds(self, paper, place=None):
        told = contents_hold(self.function, place or self.place, paper)
        self.assertIs(told, memory_oracle.is_holding(self.module, self.function, place or self.place, paper))
        return told

    def test_by_hand(self):
        zero = ("v", 0)
        for paper, told in (((), True), (((1, zero),), True), (((1, ("v", 4)),), True), (((1, ("n", 1)),), False), (((2, zero),), True), (((1, zero), (2, zero)), True),
                            (((3, zero),), False), (((1, zero), (2, zero), (3, zero)), False), (((1, zero), (2, zero), (3, ("v", 5))), True),
                            (((1, ("v", 4)), (2, zero), (3, ("v", 5))), False), (((2, zero), (3, ("v", 5))), False), (((1, zero), (2, zero), (3, ("v", 6))), False),
                            (((1, zero), (2, zero), (3, ("v", 5)), (4, ("v", 7))), True), (((4, ("v", 7)),), True), (((4, ("v", 5)),), False), (((4, ("v", 8)),), False)):
            self.assertIs(self.holds(paper), told, paper)

    def test_forms(self):
        zero = ("v", 0)
        for paper in JUNK + (((1, zero), (1, zero)), ((2, zero), (1, zero)), ((0, zero),), ((7, zero),), ((9, zero),), [(1, zero)], ([1, zero],), ((1, list(zero)),),
                             ((True, zero),), ((1.0, zero),), ((1, zero, 0),), ((1,),), ((1, ("v", False)),), ((1, None),), ((1, ("n", 0, 0)),), ((None, zero),),
                             ((1, zero), (2, zero), None)):
            self.assertIs(contents_hold(self.function, self.place, paper), False, paper)

    def test_roots_that_are_params(self):
        text = "define i8 @f(ptr){ b0(): store i8 3, $0 jump b1($0) b1(ptr $1): store i8 3, $1 branch 1, b1($1), b2() b2(): $2 = load i8 $1 return $2 }" + MAIN
        function = admitted_text(text)[1][0]
        for place, paper, told in (((("v", 1), 0, 8), ((1, ("n", 3)),), False), ((("v", 1), 0, 8), ((2, ("n", 3)),), True), ((("v", 0), 0, 8), ((1, ("n", 3)),), False),
                                   ((("v", 1), 0, 8), ((1, ("n", 3)), (2, ("n", 3))), False)):
            self.assertIs(contents_hold(function, place, paper), told)

    def test_params_of_another_width(self):
        text = """define i8 @f(ptr){ b0(): store i8 1, $0 jump b1(1, 1) b1(i8 $1, i1 $2): $3 = load i8 $0 return $3 }""" + MAIN
        function = admitted_text(text)[1][0]
        for paper, told in ((((1, ("v", 1)),), True), (((1, ("v", 2)),), False), (((1, ("n", 1)),), True)):
            self.assertIs(contents_hold(function, (("v", 0), 0, 8), paper), told)

    def test_ways_from_unreached_blocks_do_not_count(self):
        text = "define i8 @f(ptr){ b0(): store i8 1, $0 jump b1() b1(): $1 = load i8 $0 return $1 b2(): jump b1() }" + MAIN
        self.assertTrue(contents_hold(admitted_text(text)[1][0], (("v", 0), 0, 8), ((1, ("n", 1)),)))
        self.assertFalse(contents_hold(admitted_text(text)[1][0], (("v", 0), 0, 8), ((1, ("n", 1)), (2, ("n", 1)))))

    def test_ahead(self):
        paper = ((1, ("v", 0)), (2, ("v", 0)), (3, ("v", 5)))
        for label, index, told in ((0, 0, None), (0, 1, ("n", 0)), (0, 2, ("v", 0)), (1, 0, ("v", 0)), (3, 0, ("v", 5)), (3, 1, ("v", 7)), (3, 2, ("v", 7)), (4, 0, None),
                                   (7, 0, None)):
            self.assertEqual(content_ahead(self.function, self.place, paper, label, index), told)

    def test_papers_at_random(self):
        seen = {True: 0, False: 0}
        for rng in sources(300, seed=1):
            module = lively_module(rng) if rng.random() < 0.9 else admitted_module(rng)
            drawer = Drawer(rng, module)
            label, index, spot = drawer.place_of_some(rng.choice(("load", "store")))
            if spot is None:
                continue
            for _ in range(5):
                paper = drawer.contents(spot)
                told = memory_oracle.is_holding(module, drawer.function, spot, paper)
                self.assertIs(contents_hold(drawer.function, spot, paper), told)
                self.assertEqual(content_ahead(drawer.function, spot, paper, label, index),
                                 place_oracle.ahead(module, drawer.function, spot, dict(paper), label, index))
                seen[told] += len(paper) > 0
        self.assertGreater(min(seen.values()), 20)

    def test_runs_find_what_is_told(self):
        """Whenever a run comes to where a content is told, the cell is there and equals it."""
        seen = 0
        for rng in sources(150, seed=2):
            module = lively_module(rng)
            drawer = Drawer(rng, module)
            function = drawer.function
            _, _, spot = drawer.place_of_some(rng.choice(("load", "store")))
            paper = () if spot is None else drawer.contents(spot)
            if spot is None or not contents_hold(function, spot, paper):
                continue
            for inputs in ((), (1, 0, 255, 3, 3)):
                state = start_state(module, inputs)
                for _ in range(80):
                    name, label, index, values, _ = state[1][-1]
                    if name == function[0] and state[4] is None:
                        content = content_ahead(function, spot, paper, label, index)
                        seen += content is not None
                        self.check_cell(module, state, spot, content, dict(values))
                    state = advance(module, state, 1)
        self.assertGreater(seen, 300)

    def check_cell(self, module, state, spot, content, values):
        if content is None:
            return
        globals_there = {place[0]: (at, 0) for at, place in enumerate(module[0])}
        thing, integer = values[spot[0][1]] if spot[0][0] == "v" else globals_there[spot[0][1]]
        width, cells = state[0][thing]
        self.assertEqual(width, spot[2])
        self.assertEqual(cells[integer + spot[1]], values[content[1]] if content[0] == "v" else content[1])
        self.assertGreaterEqual(integer + spot[1], 0)


class Unread(unittest.TestCase):
    def told(self, body, place=(("v", 2), 0, 8), labels=(), label=0, index=1, params="ptr, i8"):
        text = "@t = global i8 [1, 2] define i8 @f(" + params + "){ b0(): $2 = alloca i8, 2 " + body + "}" + MAIN
        module = admitted_text(text)
        told = is_unread(module[1][0], place, labels, label, index)
        self.assertIs(told, place_oracle.unread(module, module[1][0], place, labels, label, index))
        return told

    def test_by_hand(self):
        cell, table, param = (("v", 2), 0, 8), (("g", "t"), 0, 8), (("v", 0), 0, 8)
        for body, place, told in (
                ("return 0", cell, True), ("return 0", table, False), ("return 0", param, False), ("stop", cell, True), ("stop", table, True), ("stop", param, True),
                ("store i8 1, $2 $3 = load i8 $2 return 0", cell, True), ("$3 = load i8 $2 return 0", cell, False), ("$3 = at i8 $2, 1 $4 = load i8 $3 return 0", cell, True),
                ("$3 = at i8 $2, 1 store i8 1, $3 stop", cell, True), ("$3 = load i8 $0 return 0", cell, True), ("$3 = load i8 $0 stop", table, False),
                ("$3 = load i16 $0 stop", table, True), ("store i8 1, $0 stop", table, True), ("store i8 1, @t return 0", table, True), ("store i8 1, $0 return 0", param, True),
                ("$3 = call @f($0, 1) return 0", cell, True), ("$3 = call @f($0, 1) stop", table, False), ("$3 = call @f($2, 1) return 0", cell, False),
                ("$3 = call @f($0, 1) store i8 1, @t stop", table, False), ("store i8 1, @t $3 = call @f($0, 1) stop", table, True),
                ("$3 = input i8 print i8 $3 stop", table, True), ("$3 = select ptr 1, $2, $0 $4 = load i8 $3 return 0", cell, False),
                ("$3 = select ptr 1, $0, $2 stop", (("v", 3), 0, 8), False), ("$3 = at i8 $0, $1 stop", (("v", 3), 0, 8), False), ("jump b1() b1(): stop", cell, False)):
            self.assertIs(self.told(body, place), told, (body, place))

    def test_the_alloca_itself(self):
        for body, index, told in (("return 0", 0, True), ("$3 = at i8 $2, $1 return 0", 0, False), ("$3 = load i8 $2 return 0", 0, True), ("$3 = load i8 $2 return 0", 1, False)):
            self.assertIs(self.told(body, index=index), told)

    def test_ways_on(self):
        text = "jump b1($2) b1(ptr $3): branch 1, b2(), b3($0) b2(): stop b3(ptr $4): store i8 1, $4 stop"
        for place, labels, label, told in (((("g", "t"), 0, 8), (1,), 0, True), ((("g", "t"), 0, 8), (2, 3), 0, False), ((("g", "t"), 0, 8), (2, 3), 1, True),
                                           ((("g", "t"), 0, 8), (2,), 1, False), ((("v", 3), 0, 8), (1,), 0, False), ((("v", 3), 0, 8), (2, 3), 1, True),
                                           ((("v", 4), 0, 8), (2, 3), 1, False), ((("v", 4), 0, 8), (), 3, True)):
            self.assertIs(self.told(text, place, labels, label, index=0 if label else 1), told, (place, labels, label))

    def test_lots(self):
        text = """@t = global i8 [1] define i8 @f(){ b0(): $0 = input i8 jump b1() b1(): branch 1, b1(), b2() b2(): branch 0, b3(), b4() b3(): $1 = load i8 @t stop
            b4(): store i8 1, @t return 0 b5(): jump b4() b6(): jump b7() b7(): jump b6() b8(): return 3 }""" + MAIN
        function = admitted_text(text)[1][0]
        place = (("g", "t"), 0, 8)
        for labels, told in (((), True), ((4,), True), ((4, 5), True), ((5,), False), ((3,), False), ((2, 4), False), ((6, 7), True), ((6,), False), ((1,), False), ((4, 5, 6, 7), True),
                             ((7, 6), False), ((6, 6, 7), False), ((4, 4), False), ((4, 9), False), ((8,), False), ([4], False), ((True,), False), ((4.0,), False), (None, False),
                             (("4",), False), (4, False), (((4,),), False), ((None,), False), ({4: 4}, False)):
            self.assertIs(unread_holds(function, place, labels), told, labels)
        safe = admitted_text(text.replace("b3(): $1 = load i8 @t stop", "b3(): stop"))[1][0]
        for labels, told in (((1, 2, 3, 4), True), ((0, 1, 2, 3, 4), True), ((0, 1, 2, 3), False), ((1,), False), ((1, 2, 3, 4, 5, 6, 7), True)):
            self.assertIs(unread_holds(safe, place, labels), told, labels)

    def test_against_the_words(self):
        seen = {True: 0, False: 0}
        for rng in sources(200, seed=3):
            module = lively_module(rng) if rng.random() < 0.9 else admitted_module(rng)
            drawer = Drawer(rng, module)
            label, index, spot = drawer.place_of_some(rng.choice(("load", "store")))
            if spot is None:
                continue
            self.assertEqual(spot, place_of(drawer.function, [block for block in drawer.blocks if block[0] == label][0][2][index][3][-1], spot[2]))
            for _ in range(4):
                labels = drawer.unread_labels(spot)
                self.assertIs(unread_holds(drawer.function, spot, labels), memory_oracle.is_unread_lot(module, drawer.function, spot, labels))
                for block in drawer.blocks:
                    for at in range(len(block[2]) + 1):
                        told = place_oracle.unread(module, drawer.function, spot, labels, block[0], at)
                        self.assertIs(is_unread(drawer.function, spot, labels, block[0], at), told)
                        seen[told] += 1
        self.assertGreater(min(seen.values()), 300)


if __name__ == "__main__":
    unittest.main()
