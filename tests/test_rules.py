"""[31]: rules."""

import unittest
from itertools import product

from anypasses.admission import module_fault
from anypasses.machine import advance, start_state
from anypasses.numbers import WIDTHS, bin_told
from anypasses.parts import types_by_value
from anypasses.reading import read_module
from anypasses.rules import RULES, rule_fits, rule_letters
from lively import lively_module
from making import sources

TABLE = """add a 0 = a; sub a 0 = a; sub a a = 0; mul a 0 = 0; mul a 1 = a; udiv a 1 = a; urem a 1 = 0; and a 0 = 0; and a -1 = a; and a a = a;
or a 0 = a; or a -1 = -1; or a a = a; xor a 0 = a; xor a a = 0; shl a 0 = a; lshr a 0 = a; ashr a 0 = a; eq a a = 1; ne a a = 0; ult a a = 0;
ule a a = 1; slt a a = 0; sle a a = 1; select 1 a b = a; select 0 a b = b; select c a a = a; select c 1 0 = c; ne a 0 = a; eq a 1 = a;
add m a = add a m; mul m a = mul a m; and m a = and a m; or m a = or a m; xor m a = xor a m; eq m a = eq a m; ne m a = ne a m;
sub a m = add a SUB 0 m; mul a p = shl a LOG p; udiv a p = lshr a LOG p; urem a p = and a SUB p 1; add add a m n = add a ADD m n;
mul mul a m n = mul a MUL m n; and and a m n = and a AND m n; or or a m n = or a OR m n; xor xor a m n = xor a XOR m n; sub add a b b = a;
add sub a b b = a; xor xor a b b = a; and a or a b = a; or a and a b = a; eq add a m n = eq a SUB n m; xor eq a b 1 = ne a b;
xor ne a b 1 = eq a b; xor ult a b 1 = ule b a; xor ule a b 1 = ult b a; xor slt a b 1 = sle b a; xor sle a b 1 = slt b a; trunc zext a = a;
trunc sext a = a; trunc trunc a = trunc a; zext zext a = zext a; sext sext a = sext a"""
CASTS, PREDS = ("zext", "sext", "trunc"), ("eq", "ne", "ult", "ule", "slt", "sle")
COUNTS = {"select": 3, "LOG": 1, "zext": 1, "sext": 1, "trunc": 1}


def tree(text):
    """The side as (word, trees of the args)."""
    def take(words):
        word = words.pop(0)
        if word in "abcmnp" or word.lstrip("-").isdigit():
            return (word,)
        return (word,) + tuple(take(words) for _ in range(COUNTS.get(word, 2)))
    return take(text.split())


class Maker:
    """A function with params as letters, in which ops are put that are told by trees."""

    def __init__(self, rng):
        self.rng = rng
        self.kinds = [8, 8, 1, 1, 16, 32, 64, "ptr", "ptr"]
        self.ops = []

    def operand(self, letter, kind):
        values = [("v", at) for at, one in enumerate(self.kinds) if one == kind]
        if kind == "ptr":
            return self.rng.choice(values)
        numbers = [("n", self.rng.choice((0, 1, 2 ** kind - 1, self.rng.randrange(2 ** kind))))]
        if letter in "mn":
            return numbers[0]
        if letter == "p":
            return ("n", 2 ** self.rng.randrange(kind))
        return self.rng.choice(values + numbers)

    def value(self, kind, op):
        self.ops.append((len(self.kinds),) + op)
        self.kinds.append(kind)
        return ("v", len(self.kinds) - 1)

    def build(self, side, kind, letters):
        """An operand of this type that is the tree; learns the letters. None if there is none of this type."""
        word = side[0]
        if word in "abcmnp":
            if word not in letters:
                letters[word] = (self.operand(word, kind), kind)
            return letters[word][0] if letters[word][1] == kind else None
        if word.lstrip("-").isdigit():
            return None if kind == "ptr" else ("n", int(word) % 2 ** kind)
        if word == word.upper():
            return ("n", calculated(side, kind, letters))
        if kind == "ptr" and word != "select":
            return None
        if word in CASTS:
            fitting = [one for one in WIDTHS if (one > kind) == (word == "trunc") and one != kind]
            known = [letters[part[0]][1] for part in side[1:] if part[0] in letters]
            wanted = [self.rng.choice(known or fitting)] if fitting else [None]
            if wanted[0] not in fitting:
                return None
            info = ("cast", (word, wanted[0], kind))
        elif word == "select":
            info, wanted = ("select", (kind,)), [1, kind, kind]
        elif word in PREDS:
            known = [letters[part[0]][1] for part in side[1:] if part[0] in letters]
            width = self.rng.choice(known or [1, 1, 1] + list(WIDTHS))
            if kind != 1:
                return None
            info, wanted = ("cmp", (word, width)), [width, width]
        else:
            info, wanted = ("bin", (word, kind)), [kind, kind]
        args = tuple(self.build(part, one, letters) for part, one in zip(side[1:], wanted))
        return None if None in args else self.value(kind, info + (args,))

    def module(self):
        main = ("main", (), 8, ((0, (), (), ("return", ("n", 0))),))
        params = tuple(self.kinds[:9])
        return ((), (("f", params, 8, ((0, (), tuple(self.ops), ("return", ("n", 0))),)), main))


def calculated(side, kind, letters):
    if len(side) == 1:
        return letters[side[0]][0][1] if side[0] in letters else int(side[0])
    if side[0] == "LOG":
        return [k for k in range(64) if 2 ** k == letters[side[1][0]][0][1]][0]
    return bin_told(side[0].lower(), kind, *[calculated(part, kind, letters) for part in side[1:]])


def left_by_trying(function, kinds, left, value):
    """All letters with which the op of a value is a tree, each letter being tried with each operand there is."""
    ops = {op[0]: op for block in function[3] for op in block[2] if op[0] is not None}

    def args_of(op):
        word = op[2][0] if op[1] in ("bin", "cmp", "cast") else op[1]
        wanted = {"bin": [op[2][-1]] * 2, "cmp": [op[2][-1]] * 2, "select": [1, op[2][0], op[2][0]]}.get(op[1], list(op[2][1:2]))
        return word, list(zip(op[3], wanted))

    def pairs(side, operand, kind):
        """The pairs (letter, (operand, type)) of a tree, None if it cannot be."""
        if len(side) == 1 and side[0] in "abcmnp":
            if side[0] in "mnp" and operand[0] != "n" or side[0] == "p" and operand[1] not in [2 ** k for k in range(64)]:
                return None
            return [(side[0], (operand, kind))]
        if len(side) == 1:
            return [] if kind != "ptr" and operand == ("n", int(side[0]) % 2 ** kind) else None
        if operand[0] != "v" or operand[1] not in ops or ops[operand[1]][1] not in ("bin", "cmp", "cast", "select"):
            return None
        word, args = args_of(ops[operand[1]])
        found = [pairs(part, *arg) for part, arg in zip(side[1:], args)]
        if word != side[0] or None in found:
            return None
        return [pair for one in found for pair in one]

    told = pairs(left, ("v", value), kinds.get(value))
    if told is None or len(set(told)) != len(dict(told)):
        return None
    return dict(told)


class Table(unittest.TestCase):
    def test_all_in_order(self):
        self.assertEqual(RULES, tuple(tuple(side.strip() for side in row.split("=")) for row in TABLE.split(";")))
        self.assertEqual(len(RULES), 63)


class Letters(unittest.TestCase):
    def test_each_rule_with_drawn_letters(self):
        """Rule after rule an op is built that is its left side, and one that is its right side."""
        for k, (left, right) in enumerate(RULES):
            fitted = 0
            for rng in sources(60, seed=k):
                maker, letters = Maker(rng), {}
                kind = rng.choice(WIDTHS + ("ptr", 1, 1))
                goal = maker.build(tree(left), kind, letters)
                if goal is None or goal[0] != "v" or goal[1] < 9:
                    continue
                operand = maker.build(tree(right), kind, letters)
                module = maker.module()
                self.assertIsNone(module_fault(module), module)
                told = rule_letters(module, module[1][0], k, goal[1])
                if len(tree(right)) == 1 and right in letters and letters[right][1] != kind:
                    self.assertIsNone(told)
                    self.assertFalse(rule_fits(module, module[1][0], k, goal[1], letters[right][0]))
                    continue
                self.assertEqual(told, tuple(sorted((letter, one) for letter, (one, _) in letters.items())), (left, maker.ops))
                if operand is not None:
                    self.assertIs(rule_fits(module, module[1][0], k, goal[1], operand), True, (left, maker.ops, operand))
                    self.check_others(rng, module, k, goal[1], operand, kind)
                    fitted += 1
            self.assertGreater(fitted, 3, left)

    def check_others(self, rng, module, k, value, operand, kind):
        """Another operand fits only if it is one with the same op, type and all."""
        function = module[1][0]
        ops = {op[0]: op[1:] for op in function[3][0][2]}
        kinds = types_by_value(module, function)
        others = [("v", other) for other in kinds] + [("n", number) for number in (0, 1, 2, 255)] + [("g", "t")]
        for other in others:
            same = other[0] == operand[0] == "v" and ops.get(other[1], 0) == ops.get(operand[1], 1) and len(tree(RULES[k][1])) > 1
            self.assertIs(rule_fits(module, function, k, value, other), other == operand or same, (RULES[k], function, value, other))

    def test_against_trying(self):
        found = 0
        for rng in sources(150):
            module = lively_module(rng)
            for function in module[1]:
                kinds = types_by_value(module, function)
                values = [value for value in kinds]
                for k, value in product(range(len(RULES)), values):
                    left, right = map(tree, RULES[k])
                    letters = left_by_trying(function, kinds, left, value)
                    if letters is not None and len(right) == 1 and right[0] in letters and letters[right[0]][1] != kinds[value]:
                        letters = None
                    told = None if letters is None else tuple(sorted((letter, operand) for letter, (operand, _) in letters.items()))
                    self.assertEqual(rule_letters(module, function, k, value), told, (RULES[k], function, value))
                    found += told is not None
        self.assertGreater(found, 100)


def function_of(ops):
    text = "define i8 @f(i8, i8, i1, i1, i16, i32, i64, ptr){ b0(): " + ops + " return 0 }"
    return read_module(text + " define i8 @main(){ b0(): return 0 }")


class Misses(unittest.TestCase):
    def letters(self, rule, ops, value=9):
        module = function_of(ops)
        self.assertIsNone(module_fault(module))
        return rule_letters(module, module[1][0], [pair[0] for pair in RULES].index(rule), value)

    def fits(self, rule, ops, operand, value=9):
        module = function_of(ops)
        self.assertIsNone(module_fault(module))
        return rule_fits(module, module[1][0], [pair[0] for pair in RULES].index(rule), value, operand)

    def test_near_misses_of_left_sides(self):
        for rule, ops, told in (
                ("add a 0", "$9 = add i8 $0, 0", (("a", ("v", 0)),)), ("add a 0", "$9 = add i8 0, $0", None), ("add a 0", "$9 = add i8 $0, 1", None),
                ("add a 0", "$9 = sub i8 $0, 0", None), ("add a 0", "$9 = add i8 0, 0", (("a", ("n", 0)),)),
                ("sub a a", "$9 = sub i8 $0, $1", None), ("sub a a", "$9 = sub i8 7, 7", (("a", ("n", 7)),)),
                ("and a -1", "$9 = and i8 $0, 255", (("a", ("v", 0)),)), ("and a -1", "$9 = and i16 $4, 255", None),
                ("and a -1", "$9 = and i1 $2, 1", (("a", ("v", 2)),)), ("mul a 1", "$9 = mul i1 $2, 1", (("a", ("v", 2)),)),
                ("mul a p", "$9 = mul i8 $0, 128", (("a", ("v", 0)), ("p", ("n", 128)))), ("mul a p", "$9 = mul i8 $0, 96", None),
                ("mul a p", "$9 = mul i8 $0, 0", None), ("mul a p", "$9 = mul i8 $0, 1", (("a", ("v", 0)), ("p", ("n", 1)))),
                ("mul a p", "$9 = mul i8 8, $0", None), ("mul a p", "$9 = mul i8 $0, $1", None),
                ("udiv a 1", "$9 = udiv i8 $0, 1", (("a", ("v", 0)),)), ("udiv a 1", "$9 = sdiv i8 $0, 1", None),
                ("eq a a", "$9 = cmp eq i8 $0, $0", (("a", ("v", 0)),)), ("eq a a", "$9 = cmp ule i8 $0, $0", None),
                ("eq a 1", "$9 = cmp eq i1 $2, 1", (("a", ("v", 2)),)), ("eq a 1", "$9 = cmp eq i8 $0, 1", None),
                ("ne a 0", "$9 = cmp ne i1 $2, 0", (("a", ("v", 2)),)), ("ne a 0", "$9 = cmp ne i16 $4, 0", None),
                ("select 1 a b", "$9 = select i8 1, $0, 3", (("a", ("v", 0)), ("b", ("n", 3)))), ("select 1 a b", "$9 = select i8 0, $0, 3", None),
                ("select 1 a b", "$9 = select i8 $2, $0, 3", None), ("select c a a", "$9 = select ptr $2, $7, $7", (("a", ("v", 7)), ("c", ("v", 2)))),
                ("select c a a", "$9 = select i8 $2, $0, $1", None), ("select c 1 0", "$9 = select i1 $2, 1, 0", (("c", ("v", 2)),)),
                ("select c 1 0", "$9 = select i8 $2, 1, 0", None), ("select c 1 0", "$9 = select i1 $2, 0, 1", None),
                ("add m a", "$9 = add i8 3, $0", (("a", ("v", 0)), ("m", ("n", 3)))), ("add m a", "$9 = add i8 $0, 3", None),
                ("add m a", "$9 = add i8 3, 4", (("a", ("n", 4)), ("m", ("n", 3)))),
                ("add add a m n", "$8 = add i8 $0, 3 $9 = add i8 $8, 4", (("a", ("v", 0)), ("m", ("n", 3)), ("n", ("n", 4)))),
                ("add add a m n", "$8 = add i8 3, $0 $9 = add i8 $8, 4", None), ("add add a m n", "$8 = add i8 $0, 3 $9 = add i8 4, $8", None),
                ("add add a m n", "$8 = sub i8 $0, 3 $9 = add i8 $8, 4", None), ("add add a m n", "$9 = add i8 $0, 4", None),
                ("sub add a b b", "$8 = add i8 $0, $1 $9 = sub i8 $8, $1", (("a", ("v", 0)), ("b", ("v", 1)))),
                ("sub add a b b", "$8 = add i8 $0, $1 $9 = sub i8 $8, $0", None), ("sub add a b b", "$8 = add i8 $0, $1 $9 = sub i8 $1, $8", None),
                ("and a or a b", "$8 = or i8 $0, $1 $9 = and i8 $0, $8", (("a", ("v", 0)), ("b", ("v", 1)))),
                ("and a or a b", "$8 = or i8 $1, $0 $9 = and i8 $0, $8", None), ("and a or a b", "$8 = or i8 $0, $1 $9 = and i8 $8, $0", None),
                ("xor eq a b 1", "$8 = cmp eq i16 $4, 5 $9 = xor i1 $8, 1", (("a", ("v", 4)), ("b", ("n", 5)))),
                ("xor eq a b 1", "$8 = cmp eq i16 $4, 5 $9 = xor i1 $8, 0", None), ("xor eq a b 1", "$8 = cmp ne i16 $4, 5 $9 = xor i1 $8, 1", None),
                ("eq add a m n", "$8 = add i8 $0, 3 $9 = cmp eq i8 $8, 1", (("a", ("v", 0)), ("m", ("n", 3)), ("n", ("n", 1)))),
                ("add add a m n", "$8 = add i8 $0, 3 $9 = add i8 8, 4", None), ("trunc zext a", "$8 = zext i8 $0 to i32 $9 = trunc i32 8 to i8", None),
                ("trunc zext a", "$8 = zext i8 $0 to i32 $9 = trunc i32 $8 to i8", (("a", ("v", 0)),)),
                ("trunc zext a", "$8 = zext i8 $0 to i32 $9 = trunc i32 $8 to i16", None),
                ("trunc zext a", "$8 = zext i8 5 to i32 $9 = trunc i32 $8 to i1", None),
                ("trunc sext a", "$8 = sext i16 $4 to i32 $9 = trunc i32 $8 to i8", None),
                ("trunc trunc a", "$8 = trunc i32 $5 to i16 $9 = trunc i16 $8 to i8", (("a", ("v", 5)),)),
                ("zext zext a", "$8 = zext i8 $0 to i16 $9 = zext i16 $8 to i64", (("a", ("v", 0)),)),
                ("zext zext a", "$8 = sext i8 $0 to i16 $9 = zext i16 $8 to i64", None)):
            self.assertEqual(self.letters(rule, ops), told, (rule, ops))

    def test_values_without_such_an_op(self):
        module = function_of("$9 = input i8 $10 = load i8 $7 $11 = alloca i8, 1 $12 = at i8 $7, 0")
        for k, value in product(range(len(RULES)), (0, 2, 7, 9, 10, 11, 12, 77)):
            self.assertIsNone(rule_letters(module, module[1][0], k, value))
            self.assertIs(rule_fits(module, module[1][0], k, value, ("v", 0)), False)

    def test_near_misses_of_right_sides(self):
        for rule, ops, operand, told in (
                ("add a 0", "$9 = add i8 $0, 0", ("v", 0), True), ("add a 0", "$9 = add i8 $0, 0", ("v", 1), False),
                ("add a 0", "$9 = add i8 $0, 0", ("n", 0), False), ("add a 0", "$9 = add i8 0, 0", ("n", 0), True),
                ("sub a a", "$9 = sub i8 $0, $0", ("n", 0), True), ("sub a a", "$9 = sub i8 $0, $0", ("n", 1), False),
                ("or a -1", "$9 = or i8 $0, 255", ("n", 255), True), ("or a -1", "$9 = or i1 $2, 1", ("n", 1), True),
                ("or a -1", "$9 = or i8 $0, 255", ("n", 1), False), ("eq a a", "$9 = cmp eq i16 $4, $4", ("n", 1), True),
                ("eq a a", "$9 = cmp eq i16 $4, $4", ("n", 0), False), ("eq a 1", "$9 = cmp eq i8 $0, 1", ("v", 0), False),
                ("add m a", "$8 = add i8 $0, 3 $9 = add i8 3, $0", ("v", 8), True), ("add m a", "$8 = add i8 $0, 4 $9 = add i8 3, $0", ("v", 8), False),
                ("add m a", "$8 = add i8 $1, 3 $9 = add i8 3, $0", ("v", 8), False), ("add m a", "$9 = add i8 3, $0", ("v", 9), False),
                ("add m a", "$8 = or i8 $0, 3 $9 = add i8 3, $0", ("v", 8), False), ("add m a", "$9 = add i8 3, 3", ("v", 9), True),
                ("sub a m", "$8 = add i8 $0, 253 $9 = sub i8 $0, 3", ("v", 8), True), ("sub a m", "$8 = add i8 $0, 3 $9 = sub i8 $0, 3", ("v", 8), False),
                ("sub a m", "$8 = add i8 $0, 253 $9 = sub i8 $0, 3", ("n", 8), False),
                ("mul a p", "$8 = shl i8 $0, 7 $9 = mul i8 $0, 128", ("v", 8), True), ("mul a p", "$8 = shl i8 $0, 15 $9 = mul i8 $0, 128", ("v", 8), False),
                ("mul a p", "$8 = shl i64 $6, 63 $9 = mul i64 $6, 9223372036854775808", ("v", 8), True),
                ("mul a p", "$8 = shl i1 $2, 0 $9 = mul i1 $2, 1", ("v", 8), True),
                ("urem a p", "$8 = and i8 $0, 0 $9 = urem i8 $0, 1", ("v", 8), True), ("urem a p", "$8 = and i8 $0, 15 $9 = urem i8 $0, 16", ("v", 8), True),
                ("xor ult a b 1", "$8 = cmp ult i8 $0, $1 $9 = xor i1 $8, 1 $10 = cmp ule i8 $1, $0", ("v", 10), True),
                ("xor ult a b 1", "$8 = cmp ult i8 $0, $1 $9 = xor i1 $8, 1 $10 = cmp ule i8 $0, $1", ("v", 10), False),
                ("xor ult a b 1", "$8 = cmp ult i8 3, 4 $9 = xor i1 $8, 1 $10 = cmp ule i16 4, 3", ("v", 10), False),
                ("xor ult a b 1", "$8 = cmp ult i8 3, 4 $9 = xor i1 $8, 1 $10 = cmp ule i8 4, 3", ("v", 10), True),
                ("trunc trunc a", "$8 = trunc i32 $5 to i16 $9 = trunc i16 $8 to i8 $10 = trunc i32 $5 to i8", ("v", 10), True),
                ("trunc trunc a", "$8 = trunc i32 $5 to i16 $9 = trunc i16 $8 to i8", ("v", 8), False),
                ("trunc trunc a", "$8 = trunc i32 5 to i16 $9 = trunc i16 $8 to i8 $10 = trunc i64 5 to i8", ("v", 10), False),
                ("sext sext a", "$8 = sext i8 200 to i16 $9 = sext i16 $8 to i32 $10 = sext i8 200 to i32", ("v", 10), True),
                ("sext sext a", "$8 = sext i8 200 to i16 $9 = sext i16 $8 to i32 $10 = sext i16 200 to i32", ("v", 10), False),
                ("sext sext a", "$8 = sext i8 200 to i16 $9 = sext i16 $8 to i32 $10 = sext i8 200 to i64", ("v", 10), False),
                ("zext zext a", "$8 = zext i8 $0 to i16 $9 = zext i16 $8 to i32 $10 = sext i8 $0 to i32", ("v", 10), False)):
            self.assertIs(self.fits(rule, ops, operand), told, (rule, ops, operand))


class Equal(unittest.TestCase):
    def test_both_sides_tell_the_same(self):
        """Whatever the letters are, a run gives both sides the same number."""
        for k, (left, right) in enumerate(RULES):
            for rng in sources(40, seed=100 + k):
                maker, letters = Maker(rng), {}
                kind = rng.choice(WIDTHS)
                goal = maker.build(tree(left), kind, letters)
                operand = None if goal is None else maker.build(tree(right), kind, letters)
                if operand is None:
                    continue
                module = maker.module()
                if goal[1] < 9 or not rule_fits(module, module[1][0], k, goal[1], operand):
                    continue
                args = ", ".join("@t" if one == "ptr" else str(rng.choice((0, 1, 2 ** one - 1, rng.randrange(2 ** one)))) for one in maker.kinds[:9])
                main = read_module("@t = global i8 [0] define i8 @main(){ b0(): $0 = call @f(" + args + ") return 0 }")
                state = advance((main[0], (module[1][0],) + main[1]), start_state((main[0], (module[1][0],) + main[1]), ()), 1 + len(maker.ops))
                values = dict(state[1][-1][3])
                told = values[operand[1]] if operand[0] == "v" else operand[1]
                self.assertEqual(values[goal[1]], told, (RULES[k], maker.ops))


if __name__ == "__main__":
    unittest.main()
