"""[16]: new numbers for labels and values."""

import unittest

from anypasses.errors import InvalidModule, InvalidQuestion
from anypasses.forms import is_module
from anypasses.machine import deeds_of
from anypasses.reading import read_module
from anypasses.renumbering import renamed, renaming, renumbered
from making import admitted_module, sources

TEXT = """@t = global i8 [1]
define i8 @f(ptr, i8) { b9(): $40 = add i8 $1, $1 $30 = cmp eq i8 $40, 7 branch $30, b4($40, $0), b5()
b5(): $2 = load i8 $0 store i8 $2, @t return $2 b4(i8 $60, ptr $50): $70 = select ptr 1, $50, @t $80 = call @f($70, $60)
jump b4($80, $70) b1(): stop }
define i8 @main() { b3(): $5 = call @f(@t, 1) print i8 $5 return 5 }"""
TOLD = """@t = global i8 [1]
define i8 @f(ptr, i8) { b0(): $2 = add i8 $1, $1 $3 = cmp eq i8 $2, 7 branch $3, b2($2, $0), b1()
b1(): $4 = load i8 $0 store i8 $4, @t return $4 b2(i8 $5, ptr $6): $7 = select ptr 1, $6, @t $8 = call @f($7, $5)
jump b2($8, $7) b3(): stop }
define i8 @main() { b0(): $0 = call @f(@t, 1) print i8 $0 return 5 }"""
NAMES = (
    (((1, 3), (4, 2), (5, 1), (9, 0)), ((0, 0), (1, 1), (2, 4), (30, 3), (40, 2), (50, 6), (60, 5), (70, 7), (80, 8))),
    (((3, 0),), ((5, 0),)),
)
FAULTY = read_module("define i8 @main() { b0(): return 256 }")


def with_values(names, at, pairs):
    return names[:at] + ((names[at][0], pairs),) + names[at + 1:]


def with_labels(names, at, pairs):
    return names[:at] + ((pairs, names[at][1]),) + names[at + 1:]


def some_names(rng, module):
    names = []
    for function in module[1]:
        labels = sorted(block[0] for block in function[3])
        values = sorted([value for block in function[3] for value, _ in block[1]]
                        + [op[0] for block in function[3] for op in block[2] if op[0] is not None])
        count = len(function[1])
        fresh = rng.sample(range(count, 2 ** 62), len(values))
        new_labels = rng.sample(range(2 ** 62), len(labels))
        params = tuple((at, at) for at in range(count))
        names.append((tuple(zip(labels, new_labels)), params + tuple(zip(values, fresh))))
    return tuple(names)


class Renumbering(unittest.TestCase):
    def refused(self, module, names):
        with self.assertRaises(InvalidQuestion) as caught:
            renamed(module, names)
        self.assertEqual(caught.exception.at, 1)

    def test_renumbered(self):
        self.assertEqual(renumbered(read_module(TEXT)), read_module(TOLD))
        self.assertEqual(renumbered(read_module(TOLD)), read_module(TOLD))

    def test_renaming_and_renamed(self):
        one, other = read_module(TEXT), read_module(TOLD)
        self.assertEqual(renaming(one, other), NAMES)
        self.assertEqual(renamed(one, NAMES), other)
        back = renaming(other, one)
        self.assertEqual(renamed(other, back), one)
        self.assertEqual(back[0][1][:3], ((0, 0), (1, 1), (2, 40)))
        self.assertEqual(renaming(one, one)[1], (((3, 3),), ((5, 5),)))

    def test_there_and_back_at_random(self):
        for rng in sources(150):
            module = admitted_module(rng)
            names = some_names(rng, module)
            other = renamed(module, names)
            self.assertTrue(is_module(other))
            self.assertEqual(renaming(module, other), names)
            self.assertEqual(renamed(other, renaming(other, module)), module)
            self.assertEqual(renumbered(other), renumbered(module))
            inputs = [rng.randrange(300) for _ in range(4)]
            self.assertEqual(deeds_of(other, inputs, 60), deeds_of(module, inputs, 60))
            self.assertEqual(deeds_of(renumbered(module), inputs, 60), deeds_of(module, inputs, 60))

    def test_no_renaming(self):
        one = read_module(TEXT)
        for old, new in (("i8 [1]", "i8 [2]"), ("$1, $1", "$1, 3"), ("@f", "@g"), ("print i8 $5", "print i8 5"), ("b1(): stop", ""),
                         ("return 5", "return 6"), ("@t", "@s"), ("$40, 7", "$1, 7")):
            other = read_module(TEXT.replace(old, new))
            self.assertIsNone(renaming(one, other))
            self.assertIsNone(renaming(other, one))

    def test_no_renaming_where_blocks_stand_otherwise(self):
        one = read_module("define i8 @main(){b0(): branch 1, b1(), b2() b1(): stop b2(): return 0}")
        other = read_module("define i8 @main(){b0(): branch 1, b1(), b2() b2(): return 0 b1(): stop}")
        self.assertIsNone(renaming(one, other))
        self.assertNotEqual(renumbered(one), renumbered(other))

    def test_modules_with_a_fault(self):
        good = read_module(TEXT)
        for ask in (lambda: renumbered(FAULTY), lambda: renamed(FAULTY, None), lambda: renamed(FAULTY, ((((0, 0),), ()),)),
                    lambda: renaming(FAULTY, good), lambda: renaming(good, FAULTY), lambda: renaming(FAULTY, ((), ()))):
            with self.assertRaises(InvalidModule) as caught:
                ask()
            self.assertEqual(caught.exception.at, 2)
        with self.assertRaises(InvalidModule) as caught:
            renaming(good, ((), ()))
        self.assertEqual(caught.exception.at, 0)

    def test_names_that_are_none(self):
        module = read_module(TEXT)
        for names in (None, (), 0, "names", [], list(NAMES), NAMES[:1], NAMES[1:], NAMES + NAMES[:1], NAMES[::-1], {}, ((), ()),
                      (NAMES[0], None), (NAMES[0], []), (NAMES[0], list(NAMES[1])), (NAMES[0], NAMES[1] + ((),)), (NAMES[0], NAMES[1][:1]),
                      (NAMES[0], (None, None)), (NAMES[0], ([(3, 0)], ((5, 0),))), (NAMES[0], (((3, 0),), [(5, 0)]))):
            self.refused(module, names)

    def test_pairs_that_are_none(self):
        module = read_module(TEXT)
        for place in (with_labels, with_values):
            old = NAMES[1][0 if place == with_labels else 1][0][0]
            for pairs in ((), ((old, 0), (old, 1)), ((old, 0), (old + 1, 1)), ((old + 1, 0),), ((old,),), ((old, 0, 0),), ([old, 0],),
                          ((True, 0),), ((old, True),), ((old, False),), ((old, -1),), ((old, 2 ** 63),), ((old, None),), ((old, "0"),),
                          ((old, 0.0),), ((float(old), 0),), ((None, 0),), (old, 0), None, 7):
                self.refused(module, place(NAMES, 1, pairs))
            renamed(module, place(NAMES, 1, ((old, 2 ** 63 - 1),)))

    def test_order_doubling_and_params(self):
        module = read_module(TEXT)
        labels, values = NAMES[0]
        self.refused(module, with_labels(NAMES, 0, labels[::-1]))
        self.refused(module, with_labels(NAMES, 0, labels[:1] + labels))
        self.refused(module, with_labels(NAMES, 0, labels[1:]))
        self.refused(module, with_labels(NAMES, 0, ((1, 2),) + labels[1:]))
        self.refused(module, with_values(NAMES, 0, values[::-1]))
        self.refused(module, with_values(NAMES, 0, values[:-1]))
        self.refused(module, with_values(NAMES, 0, values[:-1] + ((80, 2),)))
        self.refused(module, with_values(NAMES, 0, values[2:]))
        self.refused(module, with_values(NAMES, 0, ((0, 1), (1, 0)) + values[2:]))
        self.refused(module, with_values(NAMES, 0, ((0, 90),) + values[1:]))
        self.refused(module, with_values(NAMES, 0, ((0, 0), (1, 99)) + values[2:]))
        self.refused(module, with_values(NAMES, 0, values[:-1] + ((80, 1),)))
        renamed(module, with_values(NAMES, 0, values[:-1] + ((80, 99),)))

    def test_true_is_no_label(self):
        module = read_module("define i8 @main() { b1(): return 5 }")
        self.assertEqual(renamed(module, ((((1, 4),), ()),))[1][0][3][0][0], 4)
        self.refused(module, ((((True, 4),), ()),))


if __name__ == "__main__":
    unittest.main()
