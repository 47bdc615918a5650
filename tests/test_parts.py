"""[13]: parts, types, uses."""

import unittest

from anypasses.parts import operand_uses, part_places, value_types
from anypasses.reading import read_module
from making import loose_function, sources

TEXT = """@a = global i8 [1] @b = global i1 []
define void @f(ptr, i16) { b3(i8 $7, ptr $9): $2 = add i32 $1, 0 store i8 $7, $0 jump b3(1, @a) b3(): stop }
define i8 @main() { b0(): return 0 }"""


class Parts(unittest.TestCase):
    def test_places(self):
        self.assertEqual(part_places(((), ())), ())
        self.assertEqual(part_places(read_module(TEXT)), (
            ("global", 0), ("global", 1), ("function", 0), ("block", 0, 0), ("op", 0, 0, 0), ("op", 0, 0, 1), ("end", 0, 0),
            ("block", 0, 1), ("end", 0, 1), ("function", 1), ("block", 1, 0), ("end", 1, 0)))

    def test_types_of_each_kind(self):
        module = read_module("""define void @f(ptr, i16) { b0(i64 $9, ptr $10):
            $2 = add i32 0, 0 $3 = cmp eq i32 0, 0 $4 = select ptr 0, 0, 0 $5 = select i8 0, 0, 0 $6 = zext i8 0 to i64
            $7 = trunc i64 0 to i8 $8 = alloca i8, 1 $11 = at i8 0, 0 $12 = load i16 0 $13 = input i1 $14 = call @g()
            $15 = call @f() $16 = call @none() store i8 0, 0 print i8 0 call @g() stop }
            define i16 @g() { b0(): stop }""")
        self.assertEqual(value_types(module, module[1][0]), (
            (0, "ptr"), (1, 16), (2, 32), (3, 1), (4, "ptr"), (5, 8), (6, 64), (7, 8), (8, "ptr"), (9, 64), (10, "ptr"),
            (11, "ptr"), (12, 16), (13, 1), (14, 16)))
        self.assertEqual(value_types(module, module[1][1]), ())

    def test_types_where_several_parts_define_a_value(self):
        def types(text, at=0):
            module = read_module(text)
            return value_types(module, module[1][at])

        self.assertEqual(types("define void @f(i8) { b0(i16 $0): $0 = input i32 stop }"), ((0, 8),))
        self.assertEqual(types("define void @f() { b0(i16 $5, ptr $5): $5 = input i32 stop }"), ((5, 16),))
        self.assertEqual(types("define void @f() { b0(): $5 = input i32 $5 = input i8 stop }"), ((5, 32),))
        self.assertEqual(types("define void @f() { b0(): $5 = input i32 stop b1(ptr $5): stop }"), ((5, 32),))
        self.assertEqual(types("define void @f() { b0(): stop b1(ptr $5): $5 = input i8 stop }"), ((5, "ptr"),))
        self.assertEqual(types("define void @f() { b0(): stop b0(ptr $5): stop }"), ((5, "ptr"),))

    def test_no_type_where_the_first_part_tells_none(self):
        for call in ("call @none()", "call @f()", "call @t()"):
            module = read_module(f"@t = global i8 [0] define void @f() {{ b0(): $5 = {call} $5 = input i8 $6 = input i1 stop }}")
            self.assertEqual(value_types(module, module[1][0]), ((6, 1),))

    def test_uses(self):
        module = read_module("""define void @f(ptr, i16) { b3(i8 $7):
            $2 = select i8 $1, $2, $1 store i8 $7, @a $3 = input i8 call @f($7, 7, $0, $7) jump b4($7, $1, 9, $7)
            b4(): branch $1, b3($2, $2), b4(1, $1) b4(): branch 5, b3(), b4(@a, $9) b5(): return $9 b6(): return b7(): stop
            b8(): return @a b9(): return 9 }""")
        self.assertEqual(operand_uses(module[1][0]), (
            (1, 3, 0, 0), (2, 3, 0, 1), (1, 3, 0, 2), (7, 3, 1, 0), (7, 3, 3, 0), (0, 3, 3, 2), (7, 3, 3, 3),
            (7, 3, 4, 0), (1, 3, 4, 1), (7, 3, 4, 3), (1, 4, 0, 0), (2, 4, 0, 1), (2, 4, 0, 2), (1, 4, 0, 4),
            (9, 4, 0, 2), (9, 5, 0, 0)))

    def test_numbers_that_look_like_values_are_no_uses(self):
        for rng in sources(100):
            function = loose_function(rng)
            text = repr([(block[2], block[3]) for block in function[3]])
            self.assertEqual(len(operand_uses(function)), text.count("('v', "))


if __name__ == "__main__":
    unittest.main()
