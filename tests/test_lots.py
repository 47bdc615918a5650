"""[51]: lots."""

import unittest

from anypasses.errors import InvalidStep
from anypasses.lots import lot_taken
from anypasses.value_steps import apply_value
from anypasses.writing import module_text
from stepping import Steps, admitted_text

RING = """define i8 @f(i8){ b0(): jump b1($0, 3) b1(i8 $1, i8 $2): $3 = add i8 $2, $1 $4 = alloca i8, 2 $5 = at i8 $4, $3 print i8 $1
    $6 = cmp ult i8 $1, 9 branch $6, b1($1, $3), b2() b2(): return $1 b7(): $7 = mul i8 $7, 2 stop }
    define i8 @main(){ b0(): return 0 }"""


class Lots(unittest.TestCase, Steps):
    apply = staticmethod(apply_value)

    def told(self, function, values):
        try:
            return lot_taken(function, values)
        except InvalidStep as error:
            return error.at

    def test_a_ring_goes_at_once(self):
        function = admitted_text(RING)[1][0]
        new = lot_taken(function, (2, 3, 4, 5))
        self.assertEqual(new[3][0], (0, (), (), ("jump", (1, (("v", 0),)))))
        self.assertEqual(new[3][1], (1, ((1, 8),), ((None, "print", (8,), (("v", 1),)), (6, "cmp", ("ult", 8), (("v", 1), ("n", 9)))),
                                     ("branch", ("v", 6), (1, (("v", 1),)), (2, ()))))
        self.assertEqual(new[3][2:], function[3][2:])

    def test_one_too_few_or_too_many(self):
        function = admitted_text(RING)[1][0]
        for values, told in (((2, 3, 4), 3), ((2, 3, 5), None), ((3, 4, 5), 3), ((2, 4, 5), 3), ((4, 5), None), ((5,), None), ((4,), 3), ((2, 3), 3),
                             ((1, 2, 3, 4, 5), 3), ((2, 3, 4, 5, 6), 3), ((7,), None), ((2, 3, 4, 5, 7), None), ((1,), 3), ((6,), 3)):
            found = self.told(function, values)
            self.assertEqual(found if type(found) is int else None, told, values)

    def test_no_lots(self):
        function = admitted_text(RING)[1][0]
        for values in ((), None, 5, [5], (5, 5), (5, 4), (0,), (5, 99), (True,), (5.0,), ("5",), ((5,),), (-1,), (None,), {5: 5}, (4, 5, 5), ([5],)):
            self.assertEqual(self.told(function, values), 2, values)

    def test_what_may_be_in_a_lot(self):
        text = """define i8 @f(i8, ptr){ b0(): $2 = load i8 $1 $3 = input i8 $4 = call @f($2, $1) $5 = udiv i8 $3, $0 $6 = udiv i8 $3, 3 $7 = urem i8 3, 0
            $8 = select ptr 1, $1, $1 $9 = zext i8 $0 to i16 $10 = at i8 $1, 1 $11 = alloca i8, 1 $12 = cmp eq i8 $0, $0 return 0 }
            define i8 @main(){ b0(): return 0 }"""
        function = admitted_text(text)[1][0]
        for value in range(13):
            found = self.told(function, (value,))
            self.assertEqual(type(found) is int, value not in (6, 8, 9, 10, 11, 12))
            if type(found) is int:
                self.assertEqual(found, 2)

    def test_where_values_are_operands(self):
        """Conditions, returns, args of params that stay, and ops that stay hold a value back."""
        for body, told in (("b0(): $1 = add i8 1, 2 return $1", 3), ("b0(): $1 = add i8 1, 2 print i8 $1 return 0", 3),
                           ("b0(): $1 = cmp eq i8 1, 2 branch $1, b1(), b1() b1(): return 0", 3), ("b0(): $1 = add i8 1, 2 jump b1($1) b1(i8 $2): return 0", 3),
                           ("b0(): $1 = add i8 1, 2 $2 = add i8 $1, 1 return 0", 3), ("b0(): $1 = add i8 1, 2 return 0 b1(): $2 = add i8 $1, 1 stop", 3),
                           ("b0(): $1 = alloca i8, 1 store i8 1, $1 return 0", 3), ("b0(): $1 = alloca i8, 1 $2 = load i8 $1 return 0", 3),
                           ("b0(): $1 = add i8 1, 2 return 0", None), ("b0(): $1 = alloca i8, 1 return 0", None)):
            found = self.told(admitted_text("define i8 @main(){" + body + "}")[1][0], (1,))
            self.assertEqual(found if type(found) is int else None, told, body)

    def test_args_of_several_params(self):
        text = """define i8 @main(){ b0(): $0 = input i8 branch 1, b1($0, 1, $0), b1(4, 5, 6) b1(i8 $1, i8 $2, i8 $3): jump b2($3, $2)
            b2(i8 $4, i8 $5): branch 0, b1(7, $5, 8), b2(9, $5) }"""
        self.fits(text, ("take_lot", "main", (1, 3, 4)), """define i8 @main(){ b0(): $0 = input i8 branch 1, b1(1), b1(5) b1(i8 $2): jump b2($2)
            b2(i8 $5): branch 0, b1($5), b2($5) }""")
        self.fits(text, ("take_lot", "main", (2, 5)), """define i8 @main(){ b0(): $0 = input i8 branch 1, b1($0, $0), b1(4, 6) b1(i8 $1, i8 $3): jump b2($3)
            b2(i8 $4): branch 0, b1(7, 8), b2(9) }""")
        self.refused(text, ("take_lot", "main", (3, 5)), 3)
        self.refused(text, ("take_lot", "main", (0,)), 2)

    def test_the_argument_stays(self):
        function = admitted_text(RING)[1][0]
        text = module_text(((), (function,)))
        lot_taken(function, (2, 3, 4, 5))
        self.assertEqual(module_text(((), (function,))), text)


if __name__ == "__main__":
    unittest.main()
