"""[39]: places."""

import unittest

from anypasses.machine import advance, start_state
from anypasses.places import are_apart, base_of, is_inside, is_private, place_of
from anypasses.parts import value_types
from lively import lively_module
from making import admitted_module, sources
from stepping import admitted_text
import place_oracle

MAIN = " define i8 @main(){ b0(): return 0 }"


def pointers_of(module, function):
    values = [("v", value) for value, kind in value_types(module, function) if kind == "ptr"]
    return values + [("g", place[0]) for place in module[0]]


class Places(unittest.TestCase):
    text = """@t = global i8 [1, 2, 3] define i8 @f(ptr, i8){ b0(): $2 = alloca i8, 4 $3 = at i8 $2, 1 $4 = at i16 $3, 65535 $5 = at i8 $3, 255 $6 = at i8 $5, 254
        $7 = at i8 $3, $1 $8 = at i8 $7, 2 $9 = at i64 @t, 2 $10 = at i8 $0, 128 $11 = select ptr 1, $0, $2 $12 = at i1 $11, 1 $13 = at i8 $12, 1 jump b1($8)
        b1(ptr $14): $15 = at i8 $14, 3 return 0 b7(): $20 = at i8 $21, 1 $21 = at i8 $20, 1 $22 = at i8 $22, 1 $23 = at i8 $24, $1 $24 = at i8 $23, 1 stop }""" + MAIN

    def test_by_hand(self):
        function = admitted_text(self.text)[1][0]
        for value, place, base in (
                (0, (("v", 0), 0), ("v", 0)), (2, (("v", 2), 0), ("v", 2)), (3, (("v", 2), 1), ("v", 2)), (4, (("v", 2), 0), ("v", 2)), (5, (("v", 2), 0), ("v", 2)),
                (6, (("v", 2), -2), ("v", 2)), (7, (("v", 7), 0), ("v", 2)), (8, (("v", 7), 2), ("v", 2)), (9, (("g", "t"), 2), ("g", "t")),
                (10, (("v", 0), -128), ("v", 0)), (11, (("v", 11), 0), ("v", 11)), (12, (("v", 11), -1), ("v", 11)), (13, (("v", 11), 0), ("v", 11)),
                (14, (("v", 14), 0), ("v", 14)), (15, (("v", 14), 3), ("v", 14))):
            for width in (8, 64):
                self.assertEqual(place_of(function, ("v", value), width), place + (width,))
            self.assertEqual(base_of(function, ("v", value)), base)
        self.assertEqual(place_of(function, ("g", "t"), 16), (("g", "t"), 0, 16))
        self.assertEqual(base_of(function, ("g", "t")), ("g", "t"))

    def test_rings_of_ats(self):
        module = admitted_text(self.text.replace("$24 = at i8 $23, 1 stop", "$24 = at i8 $23, 1 $25 = select ptr 1, $20, $24 stop"))
        function = module[1][0]
        for value in (20, 21, 22):
            self.assertIs(is_inside(module, function, place_of(function, ("v", value), 8)), False)
            base_of(function, ("v", value))
        for value in (23, 24):
            base_of(function, ("v", value))
        self.assertEqual(place_of(function, ("v", 24), 8), (("v", 23), 1, 8))
        for one in (20, 21, 22, 23, 24):
            for other in (2, 20, 24):
                are_apart(function, place_of(function, ("v", one), 8), place_of(function, ("v", other), 8))

    def test_inside(self):
        module = admitted_text(self.text)
        function = module[1][0]
        for root, size in ((("v", 2), 4), (("g", "t"), 3)):
            for offset in range(-3, 6):
                for width in (1, 8, 16):
                    self.assertIs(is_inside(module, function, (root, offset, width)), width == 8 and 0 <= offset < size)
        for root in (("v", 0), ("v", 7), ("v", 11), ("v", 14), ("v", 3), ("g", "u")):
            self.assertIs(is_inside(module, function, (root, 0, 8)), False)

    def test_long_rows(self):
        rows = " ".join(f"${at + 1} = at i8 ${at}, 1" for at in range(1500))
        function = admitted_text("define i8 @main(){ b0(): $0 = alloca i8, 3 " + rows + " return 0 }")[1][0]
        self.assertEqual(place_of(function, ("v", 1500), 8), (("v", 0), 1500, 8))
        self.assertEqual(base_of(function, ("v", 1500)), ("v", 0))
        self.assertTrue(is_private(function, 0))


class Private(unittest.TestCase):
    def told(self, body, value=2):
        module = admitted_text("define i8 @f(ptr, i8){ b0(): $2 = alloca i8, 4 $3 = at i8 $2, 1 " + body + "}" + MAIN)
        return is_private(module[1][0], value)

    def test_by_hand(self):
        for body, told in (("return 0", True), ("$4 = load i8 $2 store i8 $4, $3 return $4", True), ("$4 = at i8 $3, 9 $5 = load i16 $4 return 0", True),
                           ("$4 = at i8 $3, $1 return 0", False), ("$4 = at i8 $2, $1 return 0", False), ("$4 = at i8 $3, 1 $5 = at i8 $4, $1 return 0", False),
                           ("jump b1($2) b1(ptr $4): return 0", False), ("jump b1($3) b1(ptr $4): return 0", False), ("$4 = call @f($2, 1) return 0", False),
                           ("$4 = call @f($3, 1) return 0", False), ("$4 = select ptr 1, $2, $0 return 0", False), ("$4 = select ptr 1, $0, $3 return 0", False),
                           ("return 0 b1(): $4 = select ptr 1, $0, $3 stop", False), ("return 0 b1(): $4 = at i8 $2, 1 $5 = at i8 $4, $1 stop", False),
                           ("$4 = select ptr 1, $0, $0 $5 = at i8 $0, $1 store i8 1, $4 return 0", True), ("$4 = at i8 $0, 1 $5 = call @f($4, 1) return 0", True)):
            self.assertIs(self.told(body), told, body)

    def test_what_no_alloca_makes(self):
        for value in (0, 1, 3, 4, 99):
            self.assertIs(self.told("$4 = at i8 $0, 1 return 0", value), False)

    def test_against_the_words(self):
        seen = {True: 0, False: 0}
        for rng in sources(250):
            module = lively_module(rng) if rng.random() < 0.8 else admitted_module(rng)
            for function in module[1]:
                for value, _ in value_types(module, function):
                    told = place_oracle.private(function, value)
                    self.assertIs(is_private(function, value), told)
                    seen[told] += 1
        self.assertGreater(min(seen.values()), 100)


class Apart(unittest.TestCase):
    text = """@t = global i8 [1, 2] @u = global i8 [3] define i8 @f(ptr, ptr, i8){ b0(): $3 = alloca i8, 2 $4 = alloca i8, 2 $5 = select ptr 1, $0, $4
        $6 = at i8 $4, $2 $7 = at i8 @t, $2 $8 = at i8 $0, $2 jump b1($4) b1(ptr $9): store i8 1, $3 return 0 }""" + MAIN

    def test_each_reason_and_none(self):
        """Of the allocas, 3 is private and 4 is not."""
        function = admitted_text(self.text)[1][0]
        t, u = ("g", "t"), ("g", "u")
        for one, other, told in (
                ((t, 0, 8), (t, 0, 16), True), ((t, 0, 8), (t, 0, 8), False), ((t, 0, 8), (t, 1, 8), True), ((t, 0, 8), (u, 0, 8), True), ((t, 0, 8), (u, 1, 8), True),
                (("v", 0), ("v", 1), False), (("v", 0), ("v", 0), False), (("v", 3), ("v", 4), True), (("v", 4), ("v", 4), False), (("v", 3), t, True), (("v", 4), t, True),
                (("v", 0), t, False), (("v", 5), t, False), (("v", 9), t, False), (("v", 3), ("v", 9), True), (("v", 3), ("v", 5), True), (("v", 3), ("v", 0), True),
                (("v", 4), ("v", 9), False), (("v", 4), ("v", 5), False), (("v", 4), ("v", 0), True), (("v", 4), ("v", 6), False), (("v", 6), ("v", 6), False),
                (("v", 6), ("v", 3), True), (("v", 6), t, True), (("v", 6), ("v", 0), True), (("v", 7), t, False), (("v", 7), u, True), (("v", 7), ("v", 4), True),
                (("v", 7), ("v", 9), False), (("v", 8), ("v", 0), False), (("v", 8), ("v", 4), True), (("v", 8), ("v", 6), True), (("v", 8), t, False),
                (("v", 5), ("v", 9), False), (("v", 8), ("v", 1), False)):
            places = [thing if len(thing) == 3 else (thing, 0, 8) for thing in (one, other)]
            self.assertIs(are_apart(function, *places), told, (one, other))
            self.assertIs(are_apart(function, *places[::-1]), told, (one, other))

    def test_params_are_those_of_the_function(self):
        """The first value that is none of them is no param."""
        function = admitted_text("@t = global i8 [1] define i8 @f(ptr){ b0(): $1 = select ptr 1, $0, @t $2 = alloca i8, 1 jump b1($2) b1(ptr $3): return 0 }" + MAIN)[1][0]
        self.assertIs(are_apart(function, (("v", 0), 0, 8), (("v", 2), 0, 8)), True)
        self.assertIs(are_apart(function, (("v", 1), 0, 8), (("v", 2), 0, 8)), False)

    def test_offsets_of_one_root_alone_count(self):
        function = admitted_text(self.text)[1][0]
        self.assertIs(are_apart(function, (("v", 6), 0, 8), (("v", 6), 1, 8)), True)
        self.assertIs(are_apart(function, (("v", 6), 0, 8), (("v", 4), 1, 8)), False)
        self.assertIs(are_apart(function, (("v", 0), -3, 8), (("v", 0), 250, 8)), True)
        self.assertIs(are_apart(function, (("v", 0), 1, 8), (("v", 1), 2, 8)), False)

    def test_against_the_words(self):
        seen = {True: 0, False: 0}
        for rng in sources(150, seed=1):
            module = lively_module(rng) if rng.random() < 0.8 else admitted_module(rng)
            for function in module[1]:
                pointers = [pointer for pointer in pointers_of(module, function) if place_oracle.place(function, pointer, 8)]
                for operand in pointers:
                    self.assertEqual(place_of(function, operand, 8), place_oracle.place(function, operand, 8))
                    self.assertEqual(base_of(function, operand), place_oracle.base(function, operand))
                places = [(operand, rng.randint(-1, 2), rng.choice((8, 8, 16))) for operand in pointers]
                for one in places:
                    self.assertIs(is_inside(module, function, one), place_oracle.inside(module, function, one))
                    for other in places:
                        if None not in (place_oracle.base(function, one[0]), place_oracle.base(function, other[0])):
                            told = place_oracle.apart(function, one, other)
                            self.assertIs(are_apart(function, one, other), told, (one, other))
                            seen[told] += 1
        self.assertGreater(min(seen.values()), 300)

    def test_what_is_apart_is_no_common_cell(self):
        """In runs: pointers that stand at once and are apart do not go to one cell."""
        seen = 0
        for rng in sources(120, seed=2):
            module = lively_module(rng)
            functions = {function[0]: function for function in module[1]}
            for inputs in ((), (1, 0, 3, 1, 1)):
                state = start_state(module, inputs)
                for _ in range(60):
                    name, _, _, values, _ = state[1][-1]
                    function = functions[name]
                    told = [(("v", value), thing) for value, thing in values if type(thing) is tuple]
                    told += [(("g", place[0]), (at, 0)) for at, place in enumerate(module[0])]
                    for one, first in told[-4:]:
                        for other, second in told[:4]:
                            places = place_of(function, one, 8), place_of(function, other, 8)
                            if first == second and state[0][first[0]] is not None and places[0][0] is not None:
                                cells = state[0][first[0]][1]
                                if 0 <= first[1] < len(cells) and self.is_fresh(function, name, one) and self.is_fresh(function, name, other):
                                    seen += 1
                                    self.assertFalse(are_apart(function, *places), (one, other))
                    state = advance(module, state, 1)
        self.assertGreater(seen, 300)

    def is_fresh(self, function, name, operand):
        """Whether the function has no loops, so that roots and what is made of them go together."""
        labels = [block[0] for block in function[3]]
        return all(labels.index(target[0]) > at for at, block in enumerate(function[3]) for target in block[3][1:]
                   if type(target) is tuple and len(target) == 2 and type(target[1]) is tuple)


if __name__ == "__main__":
    unittest.main()
