"""[54]: known numbers."""

import unittest

from anypasses.knowing import is_number_paper, known_numbers, told_number
from anypasses.machine import advance, start_state
from anypasses.rangepapers import is_range_paper, known_ranges
from anypasses.reading import read_module
from anypasses.errors import InvalidQuestion
from making import sources
from passing import Passes, any_module
from test_rangepapers import spoilt
import range_oracle

JUNK = (None, 0, True, "", "paper", b"", [], {}, (), 1.0, (0,), ((0,),), ((0, ()), (0, ())), [(0, ())], ((0, []),), ((True, ()),), ((0, ((1, 1),)),))


def main_of(body):
    return read_module("define i8 @main(){" + body + "}")[1][0]


def numbers_of(body):
    return dict(known_numbers(main_of(body)))


def told_by_words(function):
    """The rounds of the document on plain dicts: what is no single number is left out where it comes, and where it is joined."""
    facts, changed = {function[3][0][0]: {}}, True
    while changed:
        changed = False
        for label in sorted(block[0] for block in function[3]):
            if label in facts:
                for _, other, later in range_oracle.handed(function, label, facts[label]):
                    new = {value: pair for value, pair in later.items() if pair[0] == pair[1]}
                    if other in facts:
                        new = {value: pair for value, pair in facts[other].items() if new.get(value) == pair}
                    changed = changed or facts.get(other) != new
                    facts[other] = new
    return range_oracle.as_paper(facts)


class Known(Passes, unittest.TestCase):
    def test_one_number_round_a_loop(self):
        told = numbers_of("b0(): jump b1(4, 1) b1(i8 $1, i8 $2): $3 = input i1 branch $3, b1($1, 2), b2() b2(): return $1")
        self.assertEqual(told, {0: (), 1: ((1, 4, 4),), 2: ((1, 4, 4), (3, 0, 0))})

    def test_two_numbers_are_none(self):
        """Ranges would tell 1 to 3; a number paper tells nothing."""
        told = numbers_of("b0(): $0 = input i1 branch $0, b1(1), b1(3) b1(i8 $1): $2 = add i8 $1, 0 jump b2() b2(): return $2")
        self.assertEqual(told, {0: (), 1: (), 2: ()})

    def test_the_same_number_on_both_ways(self):
        told = numbers_of("b0(): $0 = input i1 branch $0, b1(3), b2() b2(): jump b1(3) b1(i8 $1): return $1")
        self.assertEqual(told, {0: (), 1: ((1, 3, 3),), 2: ((0, 0, 0),)})

    def test_numbers_that_only_hold_as_branches_go(self):
        told = numbers_of("""b0(): jump b1(1) b1(i8 $1): $2 = cmp eq i8 $1, 1 branch $2, b2(), b3() b2(): $3 = input i1 branch $3, b1($1), b4()
            b3(): jump b1(7) b4(): return $1""")
        self.assertEqual(told, {0: (), 1: ((1, 1, 1),), 2: ((1, 1, 1), (2, 1, 1)), 4: ((1, 1, 1), (2, 1, 1), (3, 0, 0))})

    def test_branches_on_comparisons(self):
        """Narrowed to one number it stays; narrowed to more it does not, although ranges between are looked at."""
        told = numbers_of("""b0(): $0 = input i8 $1 = cmp eq i8 $0, 5 branch $1, b1(), b2() b1(): stop b2(): $2 = cmp ult i8 $0, 1 branch $2, b3(), b4()
            b3(): stop b4(): stop""")
        self.assertEqual(told, {0: (), 1: ((0, 5, 5), (1, 1, 1)), 2: ((1, 0, 0),), 3: ((0, 0, 0), (1, 0, 0), (2, 1, 1)), 4: ((1, 0, 0), (2, 0, 0))})
        told = numbers_of("b0(): $0 = input i8 $1 = and i8 $0, 3 $2 = cmp ult i8 $1, 4 branch $2, b1(), b2() b1(): stop b2(): stop")
        self.assertEqual(told, {0: (), 1: ((2, 1, 1),)})

    def test_blocks_that_are_not_reached(self):
        self.assertEqual(numbers_of("b0(): branch 0, b1(), b2() b1(): stop b2(): $1 = add i8 1, 2 stop b3(): jump b2()"), {0: (), 2: ()})

    def test_values_made_again(self):
        """Ahead of the op a value may be another number than behind it."""
        function = main_of("b0(): jump b1(3) b1(i8 $1): $2 = add i8 $1, 4 branch 1, b1(3), b2() b2(): return $2")
        paper = known_numbers(function)
        self.assertEqual(paper, ((0, ()), (1, ((1, 3, 3),))))
        self.assertEqual([told_number(function, paper, value) for value in (1, 2)], [3, 7])

    def test_labels_that_fall(self):
        rows = " ".join(f"b{at}(i64 ${at}): ${100 + at} = input i1 branch ${100 + at}, b{at}(${at}), b{at - 1}(${at})" for at in range(60, 1, -1))
        function = main_of("b99(): jump b60(8) " + rows + " b1(i64 $1): return 0")
        self.assertEqual(known_numbers(function), told_by_words(function))
        self.assertEqual(told_number(function, known_numbers(function), 1), 8)

    def test_against_the_words(self):
        single = 0
        for rng in sources(250):
            for function in any_module(rng)[1]:
                paper = known_numbers(function)
                self.assertEqual(paper, told_by_words(function))
                self.assertIs(is_number_paper(function, paper), True)
                self.assertIs(is_range_paper(function, paper), True)
                single += sum(len(row) for _, row in paper)
        self.assertGreater(single, 300)


class Papers(Passes, unittest.TestCase):
    def test_papers_that_are_none(self):
        function = main_of("b0(): jump b1(3) b1(i8 $1): $2 = input i1 branch $2, b1(3), b2() b2(): return $1")
        for value in JUNK:
            self.assertIs(is_number_paper(function, value), False, value)
        for rows, told in (
                (((), (), ()), True), (((), ((1, 3, 3),), ((1, 3, 3),)), True), (((), ((1, 3, 3),), ()), True), (((), (), ((1, 3, 3),)), False),
                (((), ((1, 3, 3),), ((2, 0, 0),)), True), (((), ((1, 2, 2),), ()), False), (((), ((1, 3, 4),), ()), False), (((), ((1, 3, 4),), ((1, 3, 3),)), False),
                ((((1, 3, 3),), (), ()), False), (((), ((1, 3, 3),), ((1, 3, 3), (2, 0, 0))), True), (((), ((1, 3, 3),), ((2, 0, 0), (1, 3, 3))), False)):
            self.assertIs(is_number_paper(function, tuple(zip((0, 1, 2), rows))), told, rows)
        self.assertIs(is_number_paper(function, ((0, ()), (1, ()))), False)

    def test_a_range_paper_may_be_none(self):
        function = main_of("b0(): $0 = input i8 $1 = and i8 $0, 7 jump b1() b1(): return $1")
        self.assertIs(is_range_paper(function, ((0, ()), (1, ((1, 0, 7),)))), True)
        self.assertIs(is_number_paper(function, ((0, ()), (1, ((1, 0, 7),)))), False)

    def test_spoilt_in_one_place(self):
        told = {True: 0, False: 0}
        for rng in sources(200, seed=1):
            function = rng.choice(any_module(rng)[1])
            paper = rng.choice((known_numbers, known_ranges))(function)
            for _ in range(10):
                other = spoilt(rng, paper)
                is_one = range_oracle.is_paper(function, other) and all(low == high for _, row in other for _, low, high in row)
                self.assertIs(is_number_paper(function, other), is_one)
                told[is_one] += 1
        self.assertGreater(min(told.values()), 200)


class Told(Passes, unittest.TestCase):
    body = "b0(): $0 = input i8 $1 = and i8 $0, 0 jump b1(4, $0) b1(i8 $2, i8 $3): print i8 $2 $4 = add i8 $2, 1 $5 = add i8 $3, 1 return $4 b7(): $8 = add i8 1, 1 stop"

    def test_where_it_is_made(self):
        function = main_of(self.body)
        paper = ((0, ()), (1, ((2, 4, 4),)))
        self.assertEqual([told_number(function, paper, value) for value in (0, 1, 2, 3, 4, 5, 8)], [None, 0, 4, None, 5, None, None])
        self.assertEqual([told_number(function, ((0, ()), (1, ())), value) for value in (1, 2, 4)], [0, None, None])
        self.assertEqual(told_number(function, paper + ((7, ()),), 8), 2)
        ranges = ((0, ()), (1, ((2, 0, 9),)))
        self.assertEqual([told_number(function, ranges, value) for value in (1, 2, 4)], [0, None, None])

    def test_errors_in_their_order(self):
        module = read_module("define i8 @f(i8, i8){ b0(): $2 = add i8 1, 1 jump b1(3) b1(i8 $3): return $2 }")
        function = module[1][0]
        paper = known_numbers(function)
        for value in JUNK:
            for made in (2, 9, None):
                self.asked_wrong(InvalidQuestion, 0, told_number, function, value, made)
        for value in (0, 1, 4, 9, -1, True, None, "2", 2.0, (2,), [], {}, b""):
            self.asked_wrong(InvalidQuestion, 1, told_number, function, paper, value)
        self.assertEqual([told_number(function, paper, value) for value in (2, 3)], [2, 3])
        self.asked_wrong(InvalidQuestion, 0, told_number, function, paper[1:], 9)

    def test_runs_give_these_numbers(self):
        seen = 0
        for rng in sources(60, seed=3):
            module = any_module(rng)
            told, labels = {}, {}
            for function in module[1]:
                paper = known_numbers(function)
                labels[function[0]] = dict(paper)
                for block in function[3]:
                    for value in [value for value, _ in block[1]] + [op[0] for op in block[2] if op[0] is not None]:
                        told[function[0], value] = told_number(function, paper, value)
            for inputs in ((), (0, 255, 7, 1, 3), (9, 9, 9, 9)):
                state = start_state(module, inputs)
                for _ in range(60):
                    name, label, _, values, _ = state[1][-1]
                    self.assertIn(label, labels[name])
                    for value, number in values:
                        if told.get((name, value)) is not None:
                            self.assertEqual(number, told[name, value])
                            seen += 1
                    state = advance(module, state, 1)
        self.assertGreater(seen, 1000)


if __name__ == "__main__":
    unittest.main()
