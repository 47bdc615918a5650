"""[27]: live values."""

import unittest

from anypasses.living import end_uses, is_live_paper, live_values, op_uses
from anypasses.machine import advance, run_module, run_of, start_state
from anypasses.reading import read_module, read_op
from anypasses.shapes import end_targets
from lively import lively_module
from making import admitted_module, sources

NO_PAPERS = (None, 0, "", [], {}, ((),), ((0,),), (0, ()), ((0, ()),), [(0, ((),))])


def function_of(text):
    return read_module(text)[1][0]


def used(operands):
    return {operand[1] for operand in operands if operand[0] == "v"}


def end_used(end):
    operands = [end[1]] if end[0] in ("branch", "return") and end[1] is not None else []
    for _, args in end_targets(end):
        operands += args
    return used(operands)


def live_by_definition(function, value, label, index):
    """Whether sites that follow one another lead to a use of the value, with nothing that makes it before."""
    blocks = {block[0]: block for block in function[3]}
    seen, waiting = set(), [(label, index)]
    while waiting:
        site = waiting.pop()
        if site in seen:
            continue
        seen.add(site)
        _, _, ops, end = blocks[site[0]]
        if site[1] < len(ops):
            if value in used(ops[site[1]][3]):
                return True
            if ops[site[1]][0] != value:
                waiting.append((site[0], site[1] + 1))
        else:
            if value in end_used(end):
                return True
            waiting += [(other, 0) for other, _ in end_targets(end) if value not in dict(blocks[other][1])]
    return False


def paper_by_definition(function):
    values = list(range(len(function[1]))) + [value for block in function[3] for value, _ in block[1]]
    values = sorted(values + [op[0] for block in function[3] for op in block[2] if op[0] is not None])
    return tuple((block[0], tuple(tuple(value for value in values if live_by_definition(function, value, block[0], index))
                                  for index in range(len(block[2]) + 1))) for block in sorted(function[3]))


def stands_as_paper(function, paper):
    """The words of a live paper, for what has its form."""
    rows, blocks = dict(paper), {block[0]: block for block in function[3]}
    for label, (_, _, ops, end) in blocks.items():
        for index, op in enumerate(ops):
            if not (used(op[3]) | set(rows[label][index + 1]) - {op[0]}) <= set(rows[label][index]):
                return False
        wanted = end_used(end)
        for other, _ in end_targets(end):
            wanted |= set(rows[other][0]) - set(dict(blocks[other][1]))
        if not wanted <= set(rows[label][-1]):
            return False
    return True


def with_row(paper, at, index, row):
    label, rows = paper[at]
    return paper[:at] + ((label, rows[:index] + (row,) + rows[index + 1:]),) + paper[at + 1:]


class Uses(unittest.TestCase):
    def test_op_uses(self):
        for text, uses in (("$9 = add i8 $3, $1", (1, 3)), ("$9 = add i8 $3, $3", (3,)), ("$9 = add i8 1, 2", ()),
                           ("$9 = cmp ult i8 $4, 3", (4,)), ("$9 = select ptr $8, @g, $2", (2, 8)), ("$9 = zext i1 $5 to i8", (5,)),
                           ("$9 = alloca i8, 3", ()), ("$9 = at i8 $7, $6", (6, 7)), ("$9 = load i8 $2", (2,)),
                           ("$9 = input i8", ()), ("store i8 $9, $0", (0, 9)), ("print i8 $3", (3,)),
                           ("call @f($5, 1, $2, $5)", (2, 5)), ("$1 = call @f()", ())):
            self.assertEqual(op_uses(read_op(text)), uses)

    def test_end_uses(self):
        for end, uses in ((("jump", (1, (("v", 5), ("n", 5), ("v", 2), ("v", 5)))), (2, 5)), (("jump", (4, ())), ()),
                          (("branch", ("v", 7), (1, (("v", 8),)), (2, (("v", 3), ("v", 7)))), (3, 7, 8)),
                          (("branch", ("n", 7), (1, ()), (2, ())), ()), (("return", ("v", 4)), (4,)), (("return", ("n", 4)), ()),
                          (("return", None), ()), (("stop",), ())):
            self.assertEqual(end_uses(end), uses)


class Live(unittest.TestCase):
    def test_a_loop(self):
        function = function_of("""define i8 @f(i8, i8){ b3(): $9 = input i8 jump b1($9)
            b1(i8 $4): $5 = add i8 $4, $9 $6 = cmp ult i8 $5, $1 branch $6, b1($5), b2() b2(): return $4 }""")
        self.assertEqual(live_values(function), (
            (1, ((1, 4, 9), (1, 4, 5, 9), (1, 4, 5, 6, 9))), (2, ((4,),)), (3, ((1,), (1, 9)))))

    def test_rings_unreached_blocks_and_own_ops(self):
        function = function_of("""define i8 @main(){ b0(): return 1 b1(i8 $5): $6 = add i8 $7, 1 jump b2() b2(): $7 = add i8 $6, $5 jump b1($7)
            b9(): $8 = add i8 $8, 1 stop b10(): print i8 $5 stop }""")
        self.assertEqual(live_values(function), (
            (0, ((),)), (1, ((5, 7), (5, 6))), (2, ((5, 6), (7,))), (9, ((8,), ())), (10, ((5,), ()))))

    def test_a_param_is_live_on_other_sides_only(self):
        """The value is a param of one target of a branch, and used behind the other one."""
        function = function_of("""define i8 @main(){ b0(): $0 = input i1 branch $0, b1(3), b1(3) b1(i8 $5): return $5
            b2(): print i8 $5 branch $0, b1(7), b2() }""")
        self.assertEqual(live_values(function), ((0, ((), (0,))), (1, ((5,),)), (2, ((0, 5), (0, 5)))))

    def test_against_the_definition(self):
        for rng in sources(120):
            module = admitted_module(rng) if rng.random() < 0.5 else lively_module(rng)
            for function in module[1]:
                paper = live_values(function)
                self.assertEqual(paper, paper_by_definition(function))
                self.assertIs(is_live_paper(function, paper), True)


class Forgetting(unittest.TestCase):
    def forgotten(self, papers, state):
        """The state without the values that the papers do not have at the sites of its frames."""
        frames = []
        for name, label, place, values, base in state[1]:
            row = papers[name][label][place]
            frames.append((name, label, place, tuple(pair for pair in values if pair[0] in row), base))
        return state[:1] + (tuple(frames),) + state[2:]

    def test_a_machine_that_forgets_runs_alike(self):
        dropped = 0
        for rng in sources(100, seed=3):
            module = lively_module(rng)
            papers = {function[0]: dict(live_values(function)) for function in module[1]}
            for inputs in ((), (0, 255, 7, 1, 3), (9, 9, 9, 9)):
                state = start_state(module, inputs)
                for _ in range(60):
                    less = self.forgotten(papers, state)
                    dropped += less != state
                    state = advance(module, less, 1)
                self.assertEqual(run_of(state), run_module(module, inputs, 60))
        self.assertGreater(dropped, 300)


class LivePapers(unittest.TestCase):
    def test_more_and_less(self):
        taken = refused = 0
        for rng in sources(60, seed=1):
            function = rng.choice(lively_module(rng)[1])
            paper = live_values(function)
            values = sorted({value for _, rows in paper for row in rows for value in row}) + [777]
            for at, (label, rows) in enumerate(paper):
                for index, row in enumerate(rows):
                    for value in row:
                        less = with_row(paper, at, index, tuple(other for other in row if other != value))
                        self.assertIs(is_live_paper(function, less), stands_as_paper(function, less))
                    for value in values:
                        more = with_row(paper, at, index, tuple(sorted(set(row) | {value})))
                        told = stands_as_paper(function, more)
                        self.assertIs(is_live_paper(function, more), told)
                        taken, refused = taken + told, refused + (not told)
            for value in values:
                everywhere = tuple((label, tuple(tuple(sorted(set(row) | {value})) for row in rows)) for label, rows in paper)
                self.assertIs(is_live_paper(function, everywhere), True)
        self.assertGreater(taken, 300)
        self.assertGreater(refused, 300)

    def test_the_least_lacks_nothing(self):
        """Whatever is left out of the least paper, something is missing then."""
        for rng in sources(40, seed=2):
            function = rng.choice(lively_module(rng)[1])
            paper = live_values(function)
            for at, (_, rows) in enumerate(paper):
                for index, row in enumerate(rows):
                    for value in row:
                        less = with_row(paper, at, index, tuple(other for other in row if other != value))
                        if is_live_paper(function, less):
                            self.fail("live values are not the least")

    def test_rings_that_keep_themselves(self):
        """A value may be kept live all round a loop though nothing uses it."""
        function = function_of("define i8 @main(){ b0(): $0 = input i8 jump b1() b1(): jump b2() b2(): jump b1() }")
        self.assertEqual(live_values(function), ((0, ((), ())), (1, ((),)), (2, ((),))))
        self.assertTrue(is_live_paper(function, ((0, ((), (0,))), (1, ((0,),)), (2, ((0,),)))))
        self.assertFalse(is_live_paper(function, ((0, ((), ())), (1, ((0,),)), (2, ((0,),)))))
        self.assertFalse(is_live_paper(function, ((0, ((), (0,))), (1, ((),)), (2, ((0,),)))))
        self.assertTrue(is_live_paper(function, ((0, ((0,), (0,))), (1, ((0,),)), (2, ((0,),)))))

    def test_forms(self):
        function = function_of("define i8 @main(){ b0(): $1 = input i8 $2 = add i8 $1, 1 jump b1() b1(): $3 = add i8 $1, $2 return $3 }")
        paper = live_values(function)
        self.assertEqual(paper, ((0, ((), (1,), (1, 2))), (1, ((1, 2), (3,)))))
        first, second = paper
        for value in NO_PAPERS + (
                list(paper), (second, first), (first,), paper + ((2, ((),)),), (first, first), (first, list(second)), (first, (True, second[1])),
                (first, (1.0, second[1])), (first, ("1", second[1])), (first, second + (0,)), (first, (1, list(second[1]))),
                (first, (1, ((2, 1), (3,)))), (first, (1, ((1, 2, 2), (3,)))), (first, (1, ((True, 2), (3,)))), (first, (1, ((1, 2.0), (3,)))),
                (first, (1, ((1, "2"), (3,)))), (first, (1, ([1, 2], (3,)))), (first, (1, ((1, 2),))), (first, (1, ((1, 2), (3,), ()))),
                (first, (1, (-1, (3,)))), (first, (1, ((-1, 1, 2), (3,)))), (first, (2, second[1])), ((0, first[1]), (0, second[1])), (first, None)):
            self.assertIs(is_live_paper(function, value), False, value)
        self.assertIs(is_live_paper(function, (first, (1, ((1, 2, 3), (3,))))), False)
        self.assertIs(is_live_paper(function, ((0, ((), (1,), (1, 2))), (1, ((1, 2), (1, 3))))), True)


if __name__ == "__main__":
    unittest.main()
