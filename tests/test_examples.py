"""The examples of the document."""

import unittest

from anypasses.admission import module_fault
from anypasses.dominating import dominates, is_standing_tree, tree_of, way_around
from anypasses.loops import loop_ends, loops_of
from anypasses.machine import deeds_of, run_module, whole_run
from anypasses.meeting import frontier, meeting_labels
from anypasses.numbers import bin_told, cast_told, cmp_told, signed, wrapped
from anypasses.parts import operand_uses, value_types
from anypasses.reading import read_module, read_op
from anypasses.runs import agree_so_far, is_beginning
from anypasses.standing import standing
from anypasses.webs import reached_labels, sources_of, way_to
from anypasses.writing import module_text, op_text


class Examples(unittest.TestCase):
    def test_numbers(self):
        self.assertEqual(
            (wrapped(-1, 8), signed(200, 8), bin_told("sdiv", 8, 249, 2), bin_told("srem", 8, 249, 2),
             bin_told("udiv", 8, 5, 0)),
            (255, -56, 253, 255, None))
        self.assertEqual(
            (bin_told("ashr", 8, 251, 9), cmp_told("slt", 8, 200, 5), cast_told("sext", 8, 16, 200),
             cast_told("trunc", 16, 8, 513)),
            (253, 1, 65480, 1))

    def test_runs(self):
        self.assertEqual(
            (is_beginning(((1,), None), ((1, 2), ("value", 0))), agree_so_far(((1,), ("value", 0)), ((1, 2), None))),
            (True, False))

    def test_texts(self):
        self.assertEqual(
            (read_op("$7 = add i32 $0,3"), op_text((None, "call", ("f1",), (("v", 0), ("g", "t"))))),
            ((7, "bin", ("add", 32), (("v", 0), ("n", 3))), "call @f1($0, @t)"))
        text = ("@t=global i8[1,255] define void @main(){b0(): branch 1, b0(), b2(@t)"
                " b2(ptr $4): stop}")
        self.assertEqual(
            module_text(read_module(text)),
            "@t = global i8 [1, 255]\ndefine void @main() {\nb0():\n  branch 1, b0(), b2(@t)\nb2(ptr $4):\n  stop\n}")

    def test_parts(self):
        read = read_module("define i8 @main(){b5(): $3 = input i8 branch 1, b5(), b2($3) b2(i8 $9): return $9}")
        self.assertEqual(
            (module_fault(read), value_types(read, read[1][0]), standing(read[1][0]), operand_uses(read[1][0])[0]),
            (3, ((3, 8), (9, 8)), ((), (3, 9)), (3, 5, 1, 1)))

    def test_machine(self):
        module = read_module("define i32 @main() {\nb0():\n$0 = input i32\nprint i32 $0\nreturn $0\n}\n")
        self.assertEqual(
            (run_module(module, [7], 10), run_module(module, [7], 2), run_module(module, [], 10)),
            (((7,), ("value", 7)), ((7,), None), ((), ("trap", "input"))))
        self.assertEqual(
            (whole_run(module, [7], 100), deeds_of(module, [7], 100)),
            ((((7,), ("value", 7)), 3), (("input", 7), ("print", 7), ("end", ("value", 7)))))

    def test_webs(self):
        some = ("f", (), None, (
            (0, (), (), ("jump", (4, ()))), (4, (), (), ("branch", ("n", 1), (2, ()), (7, ()))),
            (2, (), (), ("jump", (4, ()))), (7, (), (), ("return", None))))
        self.assertEqual(
            (reached_labels(some), way_to(some, 7), sources_of(some, 4), tree_of(some),
             is_standing_tree(some, ((2, 0), (4, 0), (7, 4)))),
            ((0, 2, 4, 7), (0, 4, 7), (0, 2), ((2, 4), (4, 0), (7, 4)), True))
        self.assertEqual(
            (frontier(some, 2), meeting_labels(some, [2]), loops_of(some), loop_ends(some, 4), way_around(some, 2, 7),
             dominates(some, 2, 7)),
            ((4,), (4,), ((4, (2, 4)),), ((4, 7),), (0, 4, 7), False))


if __name__ == "__main__":
    unittest.main()
