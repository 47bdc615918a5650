"""[29]: range papers."""

import unittest

from anypasses.errors import InvalidQuestion
from anypasses.machine import advance, start_state
from anypasses.rangepapers import is_range_paper, known_ranges, range_at
from anypasses.reading import read_module
from lively import lively_module
from making import admitted_module, sources
import range_oracle


def function_of(text):
    return read_module(text)[1][0]


def main_of(body):
    return function_of("define i8 @main(){" + body + "}")


def ranges_of(body):
    return dict(known_ranges(main_of(body)))


COUNTING_UP = "b0(): jump b1(0) b1(i8 $1): $2 = cmp ult i8 $1, 10 branch $2, b2(), b3() b2(): $3 = add i8 $1, 1 jump b1($3) b3(): return $1"
COUNTING_DOWN = ("b0(): jump b1(200) b1(i8 $1): $2 = cmp ult i8 3, $1 branch $2, b2(), b3() b2(): $3 = sub i8 $1, 1 jump b1($3)"
                 " b3(): return $1")


class Known(unittest.TestCase):
    def test_counting_up(self):
        """Highs grow to the next 2 ** k - 1, also that of the 9 to which the comparison narrows."""
        self.assertEqual(ranges_of(COUNTING_UP), {
            0: (), 1: ((1, 0, 31),), 2: ((1, 0, 15), (2, 1, 1)), 3: ((1, 10, 31), (2, 0, 0))})

    def test_counting_down(self):
        """The low goes down to powers of two, and what is at most 3 stays out of the loop."""
        told = ranges_of(COUNTING_DOWN)
        self.assertEqual(told, {0: (), 1: ((1, 2, 200),), 2: ((1, 4, 200), (2, 1, 1)), 3: ((1, 2, 3), (2, 0, 0))})

    def test_counting_without_a_bound(self):
        """What becomes all by joining stays as an entry; what an op makes all has none."""
        told = ranges_of("b0(): jump b1(0) b1(i8 $1): $3 = add i8 $1, 1 jump b1($3)")
        self.assertEqual(told, {0: (), 1: ()})
        told = ranges_of("""b0(): $0 = input i1 $9 = input i8 branch $0, b1(3), b2() b2(): $5 = and i8 $9, 9 jump b3()
            b3(): $6 = cmp ult i8 $9, 200 branch $6, b1($5), b4() b4(): jump b1(255) b1(i8 $1): jump b5($1) b5(i8 $7): return $7""")
        self.assertEqual(told[1], ((0, 0, 1), (1, 0, 255)))
        self.assertEqual(told[5], ((0, 0, 1), (1, 0, 255)))

    def test_sides(self):
        told = ranges_of("""b0(): branch 1, b1(5), b2() b1(i8 $1): $2 = cmp eq i8 $1, 5 branch $2, b3(), b4() b2(): jump b3()
            b3(): return 3 b4(): return 4""")
        self.assertEqual(told, {0: (), 1: ((1, 5, 5),), 3: ((1, 5, 5), (2, 1, 1))})
        told = ranges_of("b0(): branch 0, b1(), b2() b1(): stop b2(): $2 = cmp ult i8 9, 9 branch $2, b1(), b3() b3(): stop")
        self.assertEqual(told, {0: (), 2: (), 3: ((2, 0, 0),)})

    def test_narrowing_none(self):
        """Between two tests nothing tells the comparison; narrowed to nothing, its side is not gone to."""
        told = ranges_of("""b0(): $0 = input i8 $1 = cmp ult i8 $0, 5 $2 = cmp ult i8 9, $0 branch $1, b1(), b2()
            b1(): branch $2, b3(), b4() b2(): stop b3(): stop b4(): stop""")
        self.assertEqual(told[1], ((0, 0, 4), (1, 1, 1)))
        self.assertNotIn(3, told)
        self.assertEqual(told[4], ((0, 0, 4), (1, 1, 1), (2, 0, 0)))

    def test_narrowing_both_operands(self):
        for pred, yes, no in (("ult", ((0, 10, 11), (1, 11, 12)), ((0, 10, 20), (1, 5, 12))),
                              ("ule", ((0, 10, 12), (1, 10, 12)), ((0, 10, 20), (1, 5, 12))),
                              ("slt", ((0, 10, 11), (1, 11, 12)), ((0, 10, 20), (1, 5, 12))),
                              ("eq", ((0, 10, 12), (1, 10, 12)), ((0, 10, 20), (1, 5, 12))),
                              ("ne", ((0, 10, 20), (1, 5, 12)), ((0, 10, 12), (1, 10, 12)))):
            told = ranges_of(f"""b0(): $9 = input i8 jump b1() b1(): $2 = cmp ule i8 $9, 20 branch $2, b2(), b9() b2(): $3 = cmp ule i8 10, $9
                branch $3, b3($9), b9() b3(i8 $0): $8 = input i8 $4 = cmp ule i8 $8, 12 branch $4, b4(), b9()
                b4(): $5 = cmp ule i8 5, $8 branch $5, b5($8), b9() b5(i8 $1): $6 = cmp {pred} i8 $0, $1 branch $6, b6(), b7()
                b6(): stop b7(): stop b9(): stop""")
            self.assertEqual(tuple(entry for entry in told[6] if entry[0] < 2), yes, pred)
            self.assertEqual(tuple(entry for entry in told[7] if entry[0] < 2), no, pred)

    def test_narrowing_the_first_then_the_second(self):
        """One value is both operands: what the second one becomes is what stays."""
        told = ranges_of("""b0(): $0 = input i8 $1 = cmp ule i8 $0, 9 branch $1, b1(), b2() b1(): $2 = cmp ult i8 $0, $0 branch $2, b3(), b4()
            b2(): stop b3(): stop b4(): stop""")
        self.assertEqual((told[3][0], told[4][0]), ((0, 1, 9), (0, 0, 9)))

    def test_narrowing_to_all_leaves_no_entry(self):
        told = ranges_of("""b0(): $0 = input i8 $1 = cmp ne i8 $0, 77 branch $1, b1(), b2() b1(): stop b2(): stop""")
        self.assertEqual((told[1], told[2]), (((1, 1, 1),), ((0, 77, 77), (1, 0, 0))))

    def test_a_comparison_in_another_block(self):
        told = ranges_of("b0(): $0 = input i8 $1 = cmp ult i8 $0, 7 jump b1() b1(): branch $1, b2(), b3() b2(): stop b3(): stop")
        self.assertEqual((told[2], told[3]), (((0, 0, 6), (1, 1, 1)), ((0, 7, 255), (1, 0, 0))))

    def test_signs(self):
        told = ranges_of("""b0(): $0 = input i8 $1 = cmp slt i8 $0, 9 branch $1, b1(), b2() b1(): $2 = cmp ult i8 $0, 100 branch $2, b3(), b4()
            b2(): stop b3(): $3 = cmp slt i8 $0, 50 branch $3, b5(), b6() b4(): stop b5(): stop b6(): stop""")
        self.assertEqual(told[1], ((1, 1, 1),))
        self.assertEqual((told[5][0], told[6][0]), ((0, 0, 49), (0, 50, 99)))

    def test_ops(self):
        told = ranges_of("""b0(): $0 = input i8 $1 = and i8 $0, 7 $2 = zext i8 $0 to i16 $3 = zext i8 $1 to i32 $4 = sext i8 $1 to i16
            $5 = trunc i8 $1 to i1 $6 = select i8 $5, $1, 20 $7 = select i8 1, $1, 20 $8 = select i8 0, $1, 20 $9 = cmp ult i8 $1, 8
            $10 = select i8 $5, $0, 3 $11 = zext i1 $5 to i8 $12 = alloca i8, 1 $13 = select ptr 1, $12, $12 $14 = load i8 $12
            $15 = add i8 $1, $6 jump b1() b1(): return 0""")
        self.assertEqual(told[1], ((1, 0, 7), (2, 0, 255), (3, 0, 7), (6, 0, 20), (7, 0, 7), (8, 20, 20), (9, 1, 1), (11, 0, 1), (15, 0, 27)))

    def test_params(self):
        told = ranges_of("""b0(): $0 = input i8 $1 = and i8 $0, 7 $2 = alloca i8, 1 jump b1($1, $0, 4, $2) b1(i8 $3, i8 $4, i8 $5, ptr $6):
            jump b2($5, $3) b2(i8 $7, i8 $8): stop""")
        self.assertEqual(told[1], ((1, 0, 7), (3, 0, 7), (5, 4, 4)))
        self.assertEqual(told[2], ((1, 0, 7), (3, 0, 7), (5, 4, 4), (7, 4, 4), (8, 0, 7)))

    def test_params_that_change_places(self):
        told = ranges_of("b0(): jump b1(1, 2) b1(i8 $1, i8 $2): $3 = input i1 branch $3, b1($2, $1), b2() b2(): stop")
        self.assertEqual(told[1], ((1, 1, 3), (2, 1, 3)))

    def test_values_made_again(self):
        """What a loop makes again has another entry, or none, behind its op."""
        told = ranges_of("b0(): jump b1(3) b1(i8 $1): $2 = add i8 $1, 250 $3 = input i8 branch 1, b1($3), b2() b2(): stop")
        self.assertEqual(told, {0: (), 1: ()})

    def test_many_loops(self):
        """Loops one behind the other, with labels that fall, so that what one hands on takes a round to come to the next."""
        rows = []
        for at in range(40, 1, -1):
            value = 10 * at
            rows.append(f"""b{at}(i64 ${value}): ${value + 1} = add i64 ${value}, 1 ${value + 2} = and i64 ${value + 1}, 9223372036854775807
                ${value + 3} = input i1 branch ${value + 3}, b{at}(${value + 2}), b{at - 1}(${value})""")
        function = main_of("b99(): jump b40(1) " + " ".join(rows) + " b1(i64 $1): return 0")
        paper = known_ranges(function)
        self.assertEqual(paper, range_oracle.known(function))
        self.assertTrue(is_range_paper(function, paper))

    def test_unreached(self):
        told = ranges_of("b0(): stop b1(): $1 = add i8 $1, 1 jump b1()")
        self.assertEqual(told, {0: ()})

    def test_against_the_words(self):
        for rng in sources(250):
            for function in (admitted_module(rng) if rng.random() < 0.3 else lively_module(rng))[1]:
                paper = known_ranges(function)
                self.assertEqual(paper, range_oracle.known(function))
                self.assertIs(is_range_paper(function, paper), True)


def spoilt(rng, paper):
    """A paper with one place spoilt, or widened."""
    at = rng.randrange(len(paper))
    label, row = paper[at]
    if row and rng.random() < 0.7:
        k = rng.randrange(len(row))
        value, low, high = row[k]
        other = rng.choice((
            ((value, low, max(low, high - 1)),), ((value, min(low + 1, high), high),), (), ((value, low, high + 1),), ((value, max(0, low - 1), high),),
            ((value, 0, 255),), ((value, 0, 10 ** 20),), ((value, low, high), (value + 1, 0, 3)), ((value, high, high),), ((value, low, low),)))
        row = tuple(sorted(dict((entry[0], entry) for entry in row[:k] + other + row[k + 1:]).values()))
    elif rng.random() < 0.5:
        row = tuple(sorted(dict((entry[0], entry) for entry in row + ((rng.randint(0, 400), 0, 5),)).values()))
    elif len(paper) > 1:
        return paper[:at] + paper[at + 1:]
    return paper[:at] + ((label, row),) + paper[at + 1:]


class Papers(unittest.TestCase):
    def test_spoilt_in_one_place(self):
        told = {True: 0, False: 0}
        for rng in sources(300, seed=1):
            function = rng.choice(lively_module(rng)[1])
            paper = known_ranges(function)
            for _ in range(12):
                other = spoilt(rng, paper)
                stands = range_oracle.is_paper(function, other)
                self.assertIs(is_range_paper(function, other), stands, other)
                told[stands] += 1
                if stands and rng.random() < 0.5:
                    paper = other
        self.assertGreater(told[True], 300)
        self.assertGreater(told[False], 300)

    def test_unreached_labels(self):
        """Labels that nothing goes to may have any entries; what they go to must have a pair."""
        function = main_of("b0(): return 0 b1(): $1 = input i8 jump b2($1) b2(i8 $2): branch 1, b3(), b1() b3(): stop b4(): stop")
        row = ((0, ()),)
        for entries in (((7, 2, 1),), ((7, 1, 2), (7, 1, 2)), ((7, 1, 2), (7, 1, 3)), ((7, 1, 2), (6, 1, 2)), ((True, 1, 2),), ((7, False, 2),), ((7, 1, True),), ((7, 1, 2.0),),
                        ((-7, 1, 2),), ((7, -1, 2),), ((7, 1),), ((7, 1, 2, 3),), ([7, 1, 2],), [(7, 1, 2)], (7, 1, 2), None, ((None, 1, 2),), (("7", 1, 2),)):
            self.assertIs(is_range_paper(function, row + ((4, entries),)), False, entries)
        for more, told in ((((4, ((7, 1, 1),)),), True), (((4, ((7, 1, 2),)),), True), (((3, ((1, 0, 0), (9, 3, 10 ** 30))),), True), (((2, ()),), False),
                           (((2, ()), (3, ())), True), (((2, ((1, 0, 5),)), (3, ((1, 0, 5),))), True),
                           (((2, ((1, 0, 5),)), (3, ((1, 0, 4),))), False), (((1, ()), (2, ()), (3, ())), True),
                           (((1, ()), (2, ((2, 0, 9),)), (3, ())), False), (((5, ()),), False), (((1, ()),), False)):
            self.assertIs(is_range_paper(function, row + more), told, more)

    def test_ops_that_take_entries_away(self):
        """In a label that nothing goes to a value may have an entry ahead of its op; behind other ops it has none."""
        head = "define i8 @main(){ b0(): return 0 b1(): "
        for op, kind in (("$1 = input i8", "i8"), ("$1 = load i8 @t", "i8"), ("$1 = call @zext(7)", "i8"), ("$1 = sext i1 0 to i8", "i8"), ("$1 = trunc i16 3 to i8", "i8"),
                         ("$1 = alloca i8, 1", "ptr"), ("$1 = at i8 @t, 1", "ptr"), ("$1 = select ptr 1, @t, @t", "ptr")):
            module = read_module("@t = global i8 [1] " + head + op + " jump b2() b2(): stop } define i8 @zext(i8){ b0(): return 0 }")
            function = module[1][0]
            paper = ((0, ()), (1, ((1, 3, 4), (5, 6, 7))), (2, ((5, 6, 7),)))
            self.assertEqual([range_at(function, paper, (1, index), 1) for index in (0, 1)], [(3, 4), None], op)
            self.assertIs(is_range_paper(function, paper), True)
            self.assertIs(is_range_paper(function, ((0, ()), (1, ((1, 3, 4),)), (2, ((1, 0, 255),)))), False)
        for op in ("print i8 3", "store i8 3, @t", "call @g()"):
            function = read_module("@t = global i8 [1] " + "define void @g(){ b0(): return } " + head + op + " jump b2() b2(): $1 = input i8 stop }")[1][1]
            self.assertIs(is_range_paper(function, ((0, ()), (1, ((1, 3, 4),)), (2, ((1, 3, 4),)))), True)

    def test_params_that_are_pointers(self):
        function = read_module("@t = global i8 [1] define i8 @main(){ b0(): return 0 b1(): jump b2(@t) b2(ptr $1): stop }")[1][0]
        self.assertIs(is_range_paper(function, ((0, ()), (1, ((1, 3, 4),)), (2, ()))), True)
        self.assertIs(is_range_paper(function, ((0, ()), (1, ((1, 3, 4),)), (2, ((1, 3, 4),)))), False)

    def test_calls_named_like_words(self):
        """A function may be called zext or ult; a call of it is no such op."""
        module = read_module("""define i8 @main(){ b0(): $0 = call @zext(3) $1 = call @ult(1, 2) branch $1, b1(), b2() b1(): return $0 b2(): return 1 }
            define i1 @ult(i8, i8){ b0(): return 1 } define i8 @zext(i8){ b0(): return $0 }""")
        self.assertEqual(known_ranges(module[1][0]), ((0, ()), (1, ((1, 1, 1),)), (2, ((1, 0, 0),))))

    def test_highs_beyond_the_width(self):
        """Such an entry is kept as it is, but what is asked of it may be anything."""
        function = main_of("b0(): $0 = input i8 jump b1($0) b1(i8 $1): $2 = add i8 $1, 0 jump b2() b2(): stop")
        for rows, told in (((((1, 0, 256),)), False), ((), True)):
            self.assertIs(is_range_paper(function, ((0, ()), (1, rows), (2, ()))), told)
        function = main_of("b0(): stop b1(): $2 = add i8 $9, 1 $9 = input i8 jump b2() b2(): stop")
        for entry, row, told in (((9, 3, 256), (), True), ((9, 3, 256), ((2, 4, 255),), False), ((9, 3, 250), ((2, 4, 251),), True),
                                 ((9, 3, 250), ((2, 4, 250),), False)):
            self.assertIs(is_range_paper(function, ((0, ()), (1, (entry,)), (2, row))), told)

    def test_forms(self):
        function = main_of(COUNTING_UP)
        paper = known_ranges(function)
        self.assertTrue(is_range_paper(function, paper))
        first, second, third, fourth = paper
        for value in (None, 0, "", [], (), list(paper), paper[1:], paper[:3], (second, first, third, fourth), paper + ((4, ()),), paper + (fourth,),
                      ((0, []), second, third, fourth), ((False, ()), second, third, fourth), ((0.0, ()), second, third, fourth),
                      (list(first), second, third, fourth), ((0,), second, third, fourth), ((0, (), ()), second, third, fourth),
                      ((0, ((1, 0, 255),)), second, third, fourth), (first, (1, [(1, 0, 31)]), third, fourth), (first, (1, ([1, 0, 31],)), third, fourth),
                      (first, (1, ((1, 0),)), third, fourth), (first, (1, ((1, 0, 31, 0),)), third, fourth), (first, (1, ((1, 31, 0),)), third, fourth),
                      (first, (1, ((True, 0, 31),)), third, fourth), (first, (1, ((1, False, 31),)), third, fourth), (first, (1, ((1, 0, "31"),)), third, fourth),
                      (first, (1, ((1, 0, 31.0),)), third, fourth), (first, (1, ((1, -1, 31),)), third, fourth), (first, (1, ((1, 0, 31), (1, 0, 31))), third, fourth),
                      (first, (1, ((1, 0, 31), (1, 0, 16))), third, fourth), (first, (True, ((1, 0, 31),)), third, fourth), (first, (1, None), third, fourth),
                      (first, second, (2, third[1][::-1]), fourth), (None, second, third, fourth), (first, ("1", ()), third, fourth)):
            self.assertIs(is_range_paper(function, value), False, value)
            with self.assertRaises(InvalidQuestion) as caught:
                range_at(function, value, (0, 0), 1)
            self.assertEqual(caught.exception.at, 0)
        self.assertTrue(is_range_paper(function, (first, (1, ()), (2, ((1, 0, 9),)), (3, ()))))
        self.assertTrue(is_range_paper(function, (first, (1, ()), (2, ()), (3, ((1, 10, 255),)))))
        self.assertFalse(is_range_paper(function, (first, (1, ()), (2, ()), (3, ((1, 11, 255),)))))
        self.assertFalse(is_range_paper(function, (first, (1, ()), (2, ((1, 0, 8),)), (3, ()))))


class Sites(unittest.TestCase):
    def test_each_site(self):
        for rng in sources(60, seed=2):
            function = rng.choice(lively_module(rng)[1])
            paper = known_ranges(function)
            facts = range_oracle.as_facts(paper)
            for label, _, ops, _ in function[3]:
                for index in range(len(ops) + 1):
                    there = range_oracle.walked(function, label, facts[label], index) if label in facts else {}
                    for value in list(there) + [op[0] for op in ops if op[0] is not None] + [999]:
                        told = range_at(function, paper, (label, index), value)
                        self.assertEqual(told, there.get(value))
                        self.assertIn(type(told), (tuple, type(None)))

    def test_by_hand(self):
        function = main_of("b0(): $0 = input i8 $1 = and i8 $0, 6 $2 = add i8 $1, 1 $3 = mul i8 $2, 99 stop b1(): $7 = and i8 3, 9 stop")
        paper = known_ranges(function)
        for index, told in enumerate((None, None, (0, 6), (0, 6), (0, 6))):
            self.assertEqual(range_at(function, paper, (0, index), 1), told)
        self.assertEqual([range_at(function, paper, (0, index), 2) for index in range(5)], [None, None, None, (1, 7), (1, 7)])
        self.assertIsNone(range_at(function, paper, (0, 4), 3))
        self.assertIsNone(range_at(function, paper, (1, 1), 7))
        self.assertEqual(range_at(function, paper + ((1, ()),), (1, 1), 7), (1, 1))

    def test_runs_stay_within(self):
        """Whenever a run comes to a site, each value made before is in its range; labels without a pair are not come to."""
        sites = 0
        for rng in sources(80, seed=3):
            module = lively_module(rng)
            papers = {function[0]: known_ranges(function) for function in module[1]}
            functions = {function[0]: function for function in module[1]}
            for inputs in ((), (0, 255, 7, 1, 3), (9, 9, 9, 9)):
                state = start_state(module, inputs)
                for _ in range(80):
                    name, label, place, values, _ = state[1][-1]
                    facts = range_oracle.as_facts(papers[name])
                    self.assertIn(label, facts)
                    there = range_oracle.walked(functions[name], label, facts[label], place)
                    for value, number in values:
                        if value in there:
                            sites += 1
                            self.assertTrue(there[value][0] <= number <= there[value][1])
                    state = advance(module, state, 1)
        self.assertGreater(sites, 2000)


if __name__ == "__main__":
    unittest.main()
