"""[56]: known sides."""

import unittest

from anypasses.judge import apply_step
from anypasses.sides import known_sides
from loose_oracle import fits, sides_by_words
from making import sources
from passing import MAIN, any_module
from stepping import admitted_text


class Sides(unittest.TestCase):
    def told(self, body):
        """The triples of a function; each is a step that fits."""
        module = admitted_text("define i8 @f(i8, i1){ " + body + "}" + MAIN)
        told = known_sides(module[1][0])
        for label, value, number in told:
            self.assertTrue(fits(module, ("use_in", "f", label, value, ("n", number))))
        return told

    def test_first_and_second_targets(self):
        for pred, first, second in (("eq", ((1, 0, 5),), ()), ("ne", (), ((2, 0, 5),)), ("ult", (), ()), ("ule", (), ()), ("slt", (), ()), ("sle", (), ())):
            for args in ("$0, 5", "5, $0"):
                told = self.told(f"b0(): $2 = cmp {pred} i8 {args} branch $2, b1(), b2() b1(): return 1 b2(): return 2")
                self.assertEqual(told, tuple(sorted(((1, 2, 1), (2, 2, 0)) + first + second)), (pred, args))

    def test_numbers_and_values_alone(self):
        for args in ("$0, $0", "5, 5", "5, 6"):
            self.assertEqual(self.told(f"b0(): $2 = cmp eq i8 {args} branch $2, b1(), b2() b1(): return 1 b2(): return 2"), ((1, 2, 1), (2, 2, 0)))
        self.assertEqual(self.told("b0(): $2 = cmp eq i1 $1, 1 branch $2, b1(), b2() b1(): return 1 b2(): return 2"), ((1, 1, 1), (1, 2, 1), (2, 2, 0)))

    def test_conditions_that_no_comparison_makes(self):
        self.assertEqual(self.told("b0(): branch $1, b1(), b2() b1(): return 1 b2(): return 2"), ((1, 1, 1), (2, 1, 0)))
        self.assertEqual(self.told("b0(): branch 1, b1(), b2() b1(): return 1 b2(): return 2"), ())
        self.assertEqual(self.told("b0(): $2 = xor i1 $1, 1 branch $2, b1(), b2() b1(): return 1 b2(): return 2"), ((1, 2, 1), (2, 2, 0)))

    def test_both_targets_one_label(self):
        self.assertEqual(self.told("b0(): branch $1, b1(), b1() b1(): return 1"), ())
        self.assertEqual(self.told("b0(): branch $1, b1(1), b1(2) b1(i8 $2): return $2"), ())

    def test_blocks_with_two_ways_in(self):
        self.assertEqual(self.told("b0(): branch $1, b1(), b2() b1(): jump b2() b2(): return 2"), ((1, 1, 1),))
        self.assertEqual(self.told("b0(): branch $1, b1(), b2() b1(): return 1 b2(): return 2 b3(): jump b1()"), ((2, 1, 0),))
        self.assertEqual(self.told("b0(): branch $1, b1(), b2() b1(): branch $1, b1(), b2() b2(): return 2"), ())
        self.assertEqual(self.told("b0(): jump b1() b1(): return 2"), ())

    def test_unreached_blocks(self):
        self.assertEqual(self.told("b0(): return 0 b1(): branch $1, b2(), b3() b2(): return 1 b3(): return 2"), ())
        self.assertEqual(self.told("b0(): branch $1, b2(), b3() b2(): return 1 b3(): return 2 b4(): branch $1, b4(), b5() b5(): stop"), ((2, 1, 1), (3, 1, 0)))

    def test_sides_of_loops(self):
        told = self.told("b0(): jump b1($0) b1(i8 $2): $3 = cmp ne i8 $2, 9 branch $3, b2(), b3() b2(): $4 = add i8 $2, 1 jump b1($4) b3(): return $2")
        self.assertEqual(told, ((2, 3, 1), (3, 2, 9), (3, 3, 0)))

    def test_another_block_compares(self):
        told = self.told("b0(): $2 = cmp eq i8 7, $0 jump b1() b1(): branch $2, b5(), b4() b4(): return 0 b5(): branch $2, b6(), b7() b6(): return 1 b7(): return 2")
        self.assertEqual(told, ((4, 2, 0), (5, 0, 7), (5, 2, 1), (6, 0, 7), (6, 2, 1), (7, 2, 0)))

    def test_drawn(self):
        found = 0
        for rng in sources(200):
            module = any_module(rng)
            for function in module[1]:
                told = known_sides(function)
                self.assertEqual(told, sides_by_words(function))
                self.assertIs(type(told), tuple)
                for label, value, number in told:
                    apply_step(module, ("use_in", function[0], label, value, ("n", number)))
                found += len(told)
        self.assertGreater(found, 300)


if __name__ == "__main__":
    unittest.main()
