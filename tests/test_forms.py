"""[9]: the forms of modules and of what is in them."""

import unittest

from anypasses.forms import is_ending, is_function, is_module, is_name, is_op, is_operand, is_type
from anypasses.numbers import CASTS, OPS, PREDS, WIDTHS
from making import admitted_module, loose_function, sources

A, B, C = ("v", 3), ("n", 2 ** 64 - 1), ("g", "t")
OPS_OF_EACH_FORM = (
    [(7, "bin", (op, width), (A, B)) for op in OPS for width in WIDTHS]
    + [(7, "cmp", (pred, width), (A, B)) for pred in PREDS for width in WIDTHS]
    + [(7, "select", (kind,), (A, B, C)) for kind in WIDTHS + ("ptr",)]
    + [(7, "cast", (kind, width, to), (A,)) for kind in CASTS for width in WIDTHS for to in WIDTHS]
    + [(7, "alloca", (8, size), ()) for size in (0, 1, 1001, 2 ** 64 - 1)]
    + [(2 ** 64 - 1, "at", (8,), (A, B)), (0, "load", (64,), (C,)), (7, "input", (1,), ())]
    + [(None, "store", (8,), (A, C)), (None, "print", (16,), (B,))]
    + [(None, "call", ("f",), ()), (7, "call", ("f",), ()), (7, "call", ("_f1",), (A, B, C, A))]
)
ENDINGS = (
    ("jump", (0, ())), ("jump", (2 ** 64 - 1, (A, B, C))), ("branch", A, (1, ()), (2, (A,))),
    ("branch", C, (1, ()), (1, ())), ("return", B), ("return", C), ("return", None), ("stop",),
)
BLOCK = (4, ((3, 8), (3, "ptr")), (OPS_OF_EACH_FORM[0], OPS_OF_EACH_FORM[-1]), ("branch", A, (1, (B,)), (1, ())))
FUNCTION = ("f", (8, "ptr"), 32, (BLOCK, (4, (), (), ("stop",))))
MODULE = ((("a", 8, 2, (0, 255)), ("t", 1, 0, ())), (FUNCTION, ("main", (), None, ((0, (), (), ("stop",)),))))


def spoilt(value):
    """The value with one place wrong, in each way that leaves no form right."""
    if isinstance(value, tuple):
        yield list(value)
        for at, part in enumerate(value):
            for other in spoilt(part):
                yield value[:at] + (other,) + value[at + 1:]
    elif isinstance(value, str):
        yield from (value + "-", "", 7, True, [value], (value,), value.encode(), None, "7" + value)
    elif value is None:
        yield from (False, (), "None", -1)
    else:
        yield from (True, False, -1, 2 ** 64, str(value), float(value), (value,), [value], b"1")


class Forms(unittest.TestCase):
    def test_names(self):
        for value in ("a", "Z", "_", "_1", "a9_Z", "main", "a" * 40, "zext", "define"):
            self.assertIs(is_name(value), True)
        for sign in map(chr, range(128)):
            self.assertIs(is_name(sign + "9"), sign.isalpha() or sign == "_", sign)
            self.assertIs(is_name("a" + sign), sign.isalnum() or sign == "_", sign)
        for value in ("", "7", "7a", "a-b", "a b", "a.b", " a", "a\n", "\u00e4", "\u0661", "a\u00b2", "@a", None, 0, True,
                      b"a", ["a"], ("a",)):
            self.assertIs(is_name(value), False)

    def test_types(self):
        for value in WIDTHS + ("ptr",):
            self.assertIs(is_type(value), True)
        for value in (True, 0, 7, 128, "i8", "8", "", "Ptr", None, (), ["ptr"], ("ptr",), b"ptr", 8.0):
            self.assertIs(is_type(value), False)

    def test_operands(self):
        for value in (("v", 0), ("v", 2 ** 64 - 1), ("n", 0), ("n", 2 ** 64 - 1), ("g", "t")):
            self.assertIs(is_operand(value), True)
        for value in (("v",), ("v", 0, 0), ["v", 0], ("x", 0), ("v", "t"), ("n", "t"), ("g", 0), ("g", "0"), ("v", True),
                      ("n", False), ("n", -1), ("n", 2 ** 64), ("v", 2 ** 64), (0, "v"), None, "v0", (["v"], 0), (), 3):
            self.assertIs(is_operand(value), False)

    def test_ops(self):
        for op in OPS_OF_EACH_FORM:
            self.assertIs(is_op(op), True, op)

    def test_spoilt_ops(self):
        for op in OPS_OF_EACH_FORM:
            for value in spoilt(op):
                if not (op[1] == "call" and value[0] is None):
                    self.assertIs(is_op(value), False, value)
            for value in (op + (0,), op[:3], op[1:], (op,), None, op[1]):
                self.assertIs(is_op(value), False, value)

    def test_ops_of_another_kind(self):
        for op in OPS_OF_EACH_FORM:
            value, kind, info, args = op
            turned = info[::-1] if kind in ("bin", "cmp") else ()
            for other in (info + (8,), info[1:], info * 2, turned, ("add", 8, 8, 8), ("ptr", 8)):
                self.assertIs(is_op((value, kind, other, args)), False, (kind, other))
            if kind != "call":
                self.assertIs(is_op((value, kind, info, args + (A,))), False)
                self.assertIs(is_op((value, kind, info, args[1:])), len(args) == 0)
                self.assertIs(is_op((None if value is not None else 7, kind, info, args)), False)
        for op in ((7, "div", (8,), (A,)), (7, "bin", ("eq", 8), (A, B)), (7, "cmp", ("add", 8), (A, B)),
                   (7, "bin", ("add", "ptr"), (A, B)), (7, "load", ("ptr",), (A,)), (7, "cast", ("add", 8, 8), (A,)),
                   (7, "cast", ("zext", 8, "ptr"), (A,)), (7, "alloca", ("ptr", 8), ()), (7, "add", (8,), (A, B)),
                   (7, "select", ("i8",), (A, B, C)), (7, "call", (8,), ()), (7, "jump", (8,), ()), (7, [], (8,), ())):
            self.assertIs(is_op(op), False, op)

    def test_endings(self):
        for end in ENDINGS:
            self.assertIs(is_ending(end), True)
            for value in spoilt(end):
                if value != ("return", None):
                    self.assertIs(is_ending(value), False, value)
            for value in (end + (A,), end[:-1], end[1:], (end,)):
                self.assertIs(is_ending(value), False, value)
        for value in ((), None, "stop", ("jump", 7), ("jump", A), ("branch", (1, ()), (1, ()), A), ("return", 3),
                      ("jump", (1, (), ())), ("jump", (1,)), ("jump", ((), 1)), ("jump", (1, (A, 7))), ("end",),
                      ("return", (1, ())), ("jump", (1, ()), (1, ())), ("branch", A, (1, ())), (["stop"],), 7,
                      OPS_OF_EACH_FORM[0]):
            self.assertIs(is_ending(value), False, value)

    def test_functions(self):
        self.assertIs(is_function(FUNCTION), True)
        self.assertIs(is_function(("f", (), None, (BLOCK,))), True)
        for value in spoilt(FUNCTION):
            self.assertIs(is_function(value), False, value)
        name, params, result, blocks = FUNCTION
        label, block_params, ops, end = BLOCK
        others = [
            FUNCTION + (0,), FUNCTION[:3], (name, params, result, ()), (name, params, "ptr", blocks), (name, params, 7, blocks),
            (name, params, "void", blocks), (name, (None,), result, blocks), (name, (7,), result, blocks),
            (name, params, result, BLOCK), None, "f",
        ]
        for block in (BLOCK + (0,), BLOCK[:3], (label, block_params, ops, ops[0]), (label, block_params, (end,), end),
                      (label, ((3, 7),), ops, end), (label, ((3, None),), ops, end), (label, ((3,),), ops, end),
                      (label, ((3, 8, 8),), ops, end), (label, ((8, 3),), ops, end), (None, block_params, ops, end)):
            others.append((name, params, result, (block,)))
        for value in others:
            self.assertIs(is_function(value), False, value)

    def test_what_is_not_asked_of_functions(self):
        for rng in sources(100):
            self.assertIs(is_function(loose_function(rng)), True)

    def test_modules(self):
        self.assertIs(is_module(MODULE), True)
        self.assertIs(is_module(((), ())), True)
        self.assertIs(is_module((MODULE[0], ())), True)
        self.assertIs(is_module(((), MODULE[1])), True)
        for value in spoilt(MODULE):
            self.assertIs(is_module(value), False, value)
        for rng in sources(50):
            self.assertIs(is_module(admitted_module(rng)), True)

    def test_globals(self):
        def is_let(*places):
            return is_module((places, ()))

        self.assertTrue(is_let(("a", 1, 2, (0, 1))))
        self.assertTrue(is_let(("a", 64, 1, (2 ** 64 - 1,)), ("b", 8, 1, (255,))))
        for place in (("a", 1, 1, (2,)), ("a", 8, 1, (256,)), ("a", 16, 1, (2 ** 16,)), ("a", 32, 1, (2 ** 32,)),
                      ("a", 64, 1, (2 ** 64,)), ("a", 8, 2, (1,)), ("a", 8, 0, (1,)), ("a", 8, 1, ()), ("a", 7, 1, (1,)),
                      ("a", "ptr", 1, (1,)), ("a", None, 1, (1,)), ("a", 8, True, (1,)), ("a", 8, 1, (1,), 0), ("a", 8, (1,)),
                      ("a", 8, 1, [1]), ("a", 8, 1, (None,)), ("7", 8, 1, (1,)), None, "a", ()):
            self.assertIs(is_let(place), False, place)

    def test_order_of_names(self):
        places = [(name, 8, 1, (0,)) for name in ("a", "b")]
        functions = [(name, (), None, ((0, (), (), ("stop",)),)) for name in ("c", "d")]
        self.assertIs(is_module((tuple(places), tuple(functions))), True)
        self.assertIs(is_module((tuple(places[::-1]), ())), False)
        self.assertIs(is_module(((), tuple(functions[::-1]))), False)
        self.assertIs(is_module((tuple(places[:1] * 2), ())), False)
        self.assertIs(is_module(((), tuple(functions[:1] * 2))), False)
        self.assertIs(is_module((tuple(places), (("a",) + functions[0][1:],))), False)
        self.assertIs(is_module((tuple(places), (("B",) + functions[0][1:],))), True)
        for value in (None, (), ((),), ((), (), ()), [(), ()], ([], ()), ((), []), (tuple(functions), ()), ((), tuple(places))):
            self.assertIs(is_module(value), False, value)


if __name__ == "__main__":
    unittest.main()
