"""[14]: what stands, and ways that show what does not."""

import unittest

from anypasses.errors import InvalidQuestion
from anypasses.reading import read_module
from anypasses.standing import is_missed_way, missed_way, standing, stands_at
from making import loose_function, sources


def function_of(text):
    return read_module(f"define void @f{text}")[1][0]


def targets_of(end):
    return {"jump": end[1:2], "branch": end[2:4]}.get(end[0], ())


def defined_by(block, place=None):
    return [value for value, _ in block[1]] + [op[0] for op in block[2][:place]]


def all_values(function):
    made = set(range(len(function[1]))).union(*[defined_by(block) for block in function[3]])
    return sorted(made - {None})


class Oracle:
    """What ways pass, found by going through all pairs of a block and what has been passed ahead of it, value by value."""

    def __init__(self, function):
        self.function = function
        self.first = {}
        for at, block in enumerate(function[3]):
            self.first.setdefault(block[0], at)

    def comings(self, value):
        """The pairs (index of a block, whether a definition was passed ahead of it) of the ends of all ways."""
        blocks = self.function[3]
        found, waiting = set(), [(0, False)]
        while waiting:
            at, passed = waiting.pop()
            if (at, passed) not in found:
                found.add((at, passed))
                behind = passed or value in defined_by(blocks[at])
                waiting.extend((self.first[label], behind) for label, _ in targets_of(blocks[at][3]) if label in self.first)
        return found

    def stands(self, at, place, value):
        if value < len(self.function[1]) or value in defined_by(self.function[3][at], place):
            return True
        return (at, False) not in self.comings(value)

    def is_missed(self, label, place, value, way):
        """The definition of such a way, word by word."""
        blocks = self.function[3]
        if not way or way[0] != blocks[0][0] or way[-1] != label or len(set(way)) < len(way):
            return False
        if any(other not in self.first for other in way):
            return False
        for one, other in zip(way, way[1:]):
            if other not in [head for head, _ in targets_of(blocks[self.first[one]][3])]:
                return False
        passed = [value in defined_by(blocks[self.first[other]]) for other in way[:-1]]
        return not any(passed) and not self.stands(self.first[label], place, value)


class Standing(unittest.TestCase):
    def test_rows_and_branches(self):
        function = function_of("""(i8, ptr){b0(): $5 = input i8 branch 1, b1(7), b2() b1(i8 $6): $7 = input i8 jump b3(1)
            b2(): $7 = input i8 $8 = input i8 jump b3(2) b3(i8 $9): stop}""")
        self.assertEqual(standing(function), ((0, 1), (0, 1, 5, 6), (0, 1, 5), (0, 1, 5, 7, 9)))
        self.assertEqual(stands_at(function, 2, 1), (0, 1, 5, 7))
        self.assertEqual(stands_at(function, 2, 2), (0, 1, 5, 7, 8))
        self.assertEqual(stands_at(function, 0, 0), (0, 1))

    def test_rings(self):
        function = function_of("(){b0(): jump b1(3) b1(i8 $1): $2 = input i8 branch 1, b2(), b3() b2(): $3 = input i8 jump b1(4) b3(): stop}")
        self.assertEqual(standing(function), ((), (1,), (1, 2), (1, 2)))
        self.assertEqual(missed_way(function, 1, 0, 2), (0, 1))
        self.assertEqual(missed_way(function, 3, 0, 3), (0, 1, 3))

    def test_no_way_in(self):
        function = function_of("(i8){b0(): $4 = input i8 stop b1(): $5 = input i8 jump b2() b2(i8 $9): jump b1()}")
        self.assertEqual(standing(function), ((0,), (0, 4, 5, 9), (0, 4, 5, 9)))
        self.assertEqual(missed_way(function, 1, 0, 77), None)
        self.assertFalse(is_missed_way(function, 1, 0, 77, (1,)))

    def test_labels_doubled(self):
        """A label means the first block that bears it, so no way leads to the second one."""
        function = function_of("(){b0(): branch 1, b1(), b2() b1(): jump b2() b2(): stop b2(): $5 = input i8 stop b1(): $6 = input i8 stop}")
        self.assertEqual(standing(function), ((), (), (), (5, 6), (5, 6)))
        self.assertEqual(stands_at(function, 2, 0), ())
        with self.assertRaises(InvalidQuestion) as caught:
            stands_at(function, 2, 1)
        self.assertEqual(caught.exception.at, 2)
        self.assertIn(missed_way(function, 2, 0, 5), ((0, 1, 2), (0, 2)))

    def test_ways_back_to_the_first_block(self):
        function = function_of("(){b0(): $3 = input i8 jump b1() b1(): $4 = input i8 branch 1, b0(), b1()}")
        self.assertEqual(standing(function), ((), (3,)))
        self.assertEqual(stands_at(function, 0, 1), (3,))
        self.assertEqual(missed_way(function, 0, 0, 3), (0,))
        self.assertEqual(missed_way(function, 0, 1, 4), (0,))
        self.assertFalse(is_missed_way(function, 0, 0, 4, (0, 1, 0)))

    def test_defined_several_times_and_never(self):
        function = function_of("""(){b0(): branch 1, b1(7), b2() b1(i8 $6): jump b3() b2(): $6 = input i8 $6 = input i8 jump b3()
            b3(): $6 = input i16 jump b9()}""")
        self.assertEqual(standing(function), ((), (6,), (), (6,)))
        self.assertEqual(missed_way(function, 3, 1, 6), None)
        self.assertEqual(missed_way(function, 2, 0, 6), (0, 2))
        self.assertEqual(missed_way(function, 1, 0, 99), (0, 1))
        self.assertTrue(is_missed_way(function, 3, 1, 99, (0, 2, 3)))

    def test_errors(self):
        function = function_of("(){b4(): $1 = input i8 jump b1() b1(): stop}")
        for asked in (stands_at, lambda *args: missed_way(*args, 0), lambda *args: is_missed_way(*args, 0, (4,))):
            for label in (0, True, False, -1, None, "4", "b4", (4,), [4], {4: 4}, 4.0, 9):
                for place in (0, True):
                    with self.assertRaises(InvalidQuestion) as caught:
                        asked(function, label, place)
                    self.assertEqual(caught.exception.at, 1)
            for place in (2, -1, True, False, None, "0", 0.0, (0,), [0], {}):
                with self.assertRaises(InvalidQuestion) as caught:
                    asked(function, 4, place)
                self.assertEqual(caught.exception.at, 2)
            for place in (0, 1):
                asked(function, 4, place)
            with self.assertRaises(InvalidQuestion) as caught:
                asked(function, 1, 1)
            self.assertEqual(caught.exception.at, 2)

    def test_what_is_no_way(self):
        function = function_of("(i8){b0(): branch 1, b1(), b2() b1(): jump b2() b2(): $5 = input i8 jump b1()}")
        for way in ((0, 1), (0, 2, 1)):
            self.assertIs(is_missed_way(function, 1, 0, 77, way), True)
        self.assertIs(is_missed_way(function, 1, 0, 5, (0, 1)), True)
        for way in ((0, 2, 1), (1,), (0,), (), (0, 1, 2, 1), [0, 1], (0, True), (False, 1), (0, 9, 1), (0, [1]), ([0], 1),
                    None, 0, "01", (0, 1.0), (0, None, 1), ((0, 1),), (0, 0, 1), (2, 1), (0, "1"), {0: 1}):
            self.assertIs(is_missed_way(function, 1, 0, 5, way), False, way)
        self.assertIs(is_missed_way(function, 1, 0, 0, (0, 1)), False)
        self.assertIs(missed_way(function, 1, 0, 0), None)

    def test_against_the_definition(self):
        for rng in sources(400):
            function = loose_function(rng)
            oracle = Oracle(function)
            values = all_values(function)
            told = standing(function)
            for at, block in enumerate(function[3]):
                ways_lead = any((at, passed) in oracle.comings(-1) for passed in (True, False))
                if oracle.first[block[0]] != at:
                    self.assertFalse(ways_lead)
                self.assertEqual(told[at], tuple(value for value in values if oracle.stands(at, 0, value)))
            for label, at in oracle.first.items():
                for place in range(len(function[3][at][2]) + 1):
                    self.assertEqual(stands_at(function, label, place),
                                     tuple(value for value in values if oracle.stands(at, place, value)))
                    self.check_ways(rng, oracle, label, place)

    def check_ways(self, rng, oracle, label, place):
        function = oracle.function
        labels = [block[0] for block in function[3]] + [9]
        for value in range(8):
            way = missed_way(function, label, place, value)
            self.assertEqual(way is None, oracle.stands(oracle.first[label], place, value))
            if way is not None:
                self.assertTrue(oracle.is_missed(label, place, value, way))
                self.assertIs(is_missed_way(function, label, place, value, way), True)
            for _ in range(3):
                other = (function[3][0][0],) * rng.randint(0, 1) + tuple(rng.choices(labels, k=rng.randint(0, 3))) + (label,)
                self.assertIs(is_missed_way(function, label, place, value, other),
                              oracle.is_missed(label, place, value, other))

    def test_many_blocks(self):
        blocks = [(at, (), ((at, "input", (8,), ()),), ("branch", ("n", 1), (at - 1, ()), (at + 1, ()))) for at in range(200)]
        function = ("f", (), None, tuple(blocks))
        self.assertEqual(standing(function)[199], tuple(range(199)))
        turned = ("f", (), None, tuple(blocks[:1] + blocks[:0:-1]))
        self.assertEqual(standing(turned)[1], tuple(range(199)))
        self.assertEqual(missed_way(function, 199, 0, 199), tuple(range(200)))


if __name__ == "__main__":
    unittest.main()
