"""[64], [65]: the most that is told of cells, and pass memory."""

import unittest
from itertools import combinations

from anypasses.contents import contents_hold, unread_holds
from anypasses.errors import InvalidStep
from anypasses.judge import apply_step
from anypasses.machine import run_module
from anypasses.remembering import best_contents, best_unread, is_remembered, pass_memory
from anypasses.runs import agree_so_far
from anypasses.shapes import end_targets
from anypasses.webs import reached_labels
from making import sources
from passing import MAIN, Passes, any_module, function_of
from place_oracle import ahead, goes_to, inside
from stepping import INPUTS, admitted_text, flat

TABLE = "@t = global i8 [1, 2] @u = global i8 [3] "


def contents_by_words(module, function, spot):
    """Rounds that begin with all being possible; what is found once is only given up."""
    blocks = {block[0]: block for block in function[3]}
    reached = reached_labels(function)
    found = {reached_label: "any" for reached_label in reached}
    found[function[3][0][0]] = None
    while True:
        old = dict(found)
        for label in reached:
            params = [("v", value) for value, _ in blocks[label][1]]
            brought = []
            for source in reached:
                for head, _ in end_targets(blocks[source][3]):
                    if head == label:
                        told = {} if found[source] is None else {source: found[source]}
                        brought.append(ahead(module, function, spot, told, source, len(blocks[source][2])))
            brought = [content for content in brought if content != "any"]
            if label != function[3][0][0] and brought:
                good = len(set(brought)) == 1 and brought[0] not in params and spot[0] not in params
                found[label] = brought[0] if good and found[label] in ("any", brought[0]) else None
        if found == old:
            return tuple((label, found[label]) for label in sorted(found) if found[label] is not None)


def spots_of(function):
    spots = [goes_to(function, op) for block in function[3] for op in block[2] if op[1] in ("load", "store")]
    return sorted({spot for spot in spots if spot is not None}, key=repr)


def fits(module, step):
    try:
        return apply_step(module, step)
    except InvalidStep:
        return None


def steps_by_words(function):
    """The steps of [65] for each load and each store."""
    name = function[0]
    for label, _, ops, _ in function[3]:
        for at, op in enumerate(ops):
            if op[1] in ("load", "store") and goes_to(function, op) is not None:
                b, u = best_contents(function, goes_to(function, op)), best_unread(function, goes_to(function, op))
                if op[1] == "load":
                    yield ("forward", name, op[0], b)
                    yield ("load_out", name, op[0])
                else:
                    yield ("store_out", name, label, at, ("same", b))
                    yield ("store_out", name, label, at, ("unread", b, u))


def remembered_by_words(module):
    return not any(fits(module, step) for function in module[1] for step in steps_by_words(function))


class Most(unittest.TestCase):
    def best(self, body, spot, head="define i8 @f(ptr, i8, i1){ "):
        function = admitted_text(TABLE + head + body + "}" + MAIN)[1][0]
        told, lot = best_contents(function, spot), best_unread(function, spot)
        self.assertTrue(contents_hold(function, spot, told) and unread_holds(function, spot, lot))
        return told, lot

    def test_round_a_loop(self):
        """A content goes round a loop that leaves the cell alone, and is given up in one that does not."""
        for op, told in (("store i8 1, $9", (("v", 1),) * 3), ("$8 = load i8 @u", (("v", 1),) * 3), ("store i8 $1, @t", (("v", 1),) * 3), ("store i8 7, @t", (None, None, None)),
                         ("store i8 7, $0", (None, None, None)), ("$8 = call @main()", (None, None, None)), ("$8 = load i8 @t", (None, None, None)),
                         ("$8 = load i8 @t store i8 $1, @t", (("v", 1),) * 3)):
            contents, _ = self.best(f"b0(): $9 = at i8 @t, 1 store i8 $1, @t jump b1() b1(): branch $2, b2(), b3() b2(): {op} jump b1() b3(): return 0", (("g", "t"), 0, 8))
            self.assertEqual(contents, tuple((label, operand) for label, operand in zip((1, 2, 3), told) if operand is not None), op)

    def test_where_ways_meet(self):
        for one, other, told in (("store i8 1, @t", "store i8 1, @t", ("n", 1)), ("store i8 1, @t", "store i8 2, @t", None), ("store i8 1, @t", "print i8 1", None), ("store i8 $1, @t", "store i8 $1, @t", ("v", 1))):
            contents, _ = self.best(f"b0(): branch $2, b1(), b2() b1(): {one} jump b3() b2(): {other} jump b3() b3(): return 0", (("g", "t"), 0, 8))
            self.assertEqual(dict(contents).get(3), told)

    def test_params_are_not_told(self):
        """A param for which the content is handed on would make a paper that is not plain."""
        contents, _ = self.best("b0(): store i8 $1, @t jump b1($1) b1(i8 $3): jump b2() b2(): return $3", (("g", "t"), 0, 8))
        self.assertEqual(contents, ((1, ("v", 1)), (2, ("v", 1))))
        contents, _ = self.best("b0(): jump b1(7) b1(i8 $3): store i8 $3, @t branch $2, b1(5), b2() b2(): return $3", (("g", "t"), 0, 8))
        self.assertEqual(contents, ((2, ("v", 3)),))

    def test_values_made_anew(self):
        contents, _ = self.best("b0(): store i8 7, @t jump b1() b1(): $3 = input i8 branch $2, b2(), b3() b2(): store i8 $3, @t jump b1() b3(): return 0", (("g", "t"), 0, 8))
        self.assertEqual(contents, ())
        contents, _ = self.best("b0(): $3 = load i8 @t jump b1() b1(): $4 = load i8 @t branch $2, b1(), b2() b2(): return 0", (("g", "t"), 0, 8))
        self.assertEqual(contents, ((2, ("v", 4)),))

    def test_roots(self):
        """What makes the root, or has it as a param, ends what is known; an alloca begins with 0."""
        self.assertEqual(self.best("b0(): jump b1() b1(): $3 = alloca i8, 2 branch $2, b2(), b3() b2(): jump b1() b3(): return 0", (("v", 3), 1, 8))[0], ((2, ("n", 0)), (3, ("n", 0))))
        self.assertEqual(self.best("b0(): jump b1() b1(): $3 = alloca i8, 2 branch $2, b2(), b3() b2(): jump b1() b3(): return 0", (("v", 3), 2, 8))[0], ())
        self.assertEqual(self.best("b0(): jump b1($0) b1(ptr $3): store i8 1, $3 branch $2, b1($3), b2() b2(): return 0", (("v", 3), 0, 8))[0], ((2, ("n", 1)),))
        self.assertEqual(self.best("b0(): jump b1() b1(): $3 = select ptr $2, @t, @u store i8 1, $3 branch $2, b1(), b2() b2(): return 0", (("v", 3), 0, 8))[0], ((2, ("n", 1)),))

    def test_private_allocas(self):
        for shown, told in (("$8 = call @main()", ((1, ("n", 4)),)), ("$8 = at i8 $3, $1", ()), ("store i8 7, $0", ((1, ("n", 4)),))):
            contents, _ = self.best(f"b0(): $3 = alloca i8, 2 store i8 4, $3 {shown} $9 = call @main() jump b1() b1(): return 0", (("v", 3), 0, 8))
            self.assertEqual(contents, told, shown)

    def test_unread(self):
        for body, spot, told in (
                ("b0(): return 0", (("g", "t"), 0, 8), ()), ("b0(): stop", (("g", "t"), 0, 8), (0,)), ("b0(): store i8 1, @t return 0", (("g", "t"), 0, 8), (0,)),
                ("b0(): $3 = load i8 @t stop", (("g", "t"), 0, 8), ()), ("b0(): $3 = load i8 @u stop", (("g", "t"), 0, 8), (0,)), ("b0(): $3 = load i8 $0 stop", (("g", "t"), 0, 8), ()),
                ("b0(): $3 = call @main() stop", (("g", "t"), 0, 8), ()), ("b0(): jump b1() b1(): branch $2, b1(), b2() b2(): stop", (("g", "t"), 0, 8), (0, 1, 2)),
                ("b0(): jump b1() b1(): branch $2, b1(), b2() b2(): return 0", (("g", "t"), 0, 8), ()), ("b0(): $3 = alloca i8, 1 jump b1() b1(): return 0", (("v", 3), 0, 8), (0, 1)),
                ("b0(): $3 = alloca i8, 1 jump b1() b1(): $4 = load i8 $3 jump b2() b2(): return 0 b4(): jump b2()", (("v", 3), 0, 8), (0, 2, 4)),
                ("b0(): jump b1($0) b1(ptr $3): store i8 1, $3 jump b2() b2(): branch $2, b1($3), b3() b3(): stop", (("v", 3), 0, 8), (1, 3)),
                ("b0(): stop b1(): jump b1() b2(): return 0 b3(): branch $2, b1(), b2()", (("g", "t"), 0, 8), (0, 1))):
            self.assertEqual(self.best(body, spot)[1], told, body)

    def test_drawn(self):
        """The told paper is the one that the words tell; no label can be added, nor can any lot that holds have another one."""
        told = lots = 0
        for rng in sources(150):
            module = any_module(rng)
            for function in module[1]:
                spots = spots_of(function) + [(("g", "tab"), 0, 8), (("v", 0), 0, 8)]
                labels = sorted(block[0] for block in function[3])
                for spot in rng.sample(spots, min(4, len(spots))):
                    contents, unread = best_contents(function, spot), best_unread(function, spot)
                    self.assertIs(type(contents), tuple)
                    self.assertEqual(contents, contents_by_words(module, function, spot))
                    self.assertTrue(contents_hold(function, spot, contents))
                    self.assertTrue(unread_holds(function, spot, unread))
                    for label in set(labels) - set(unread):
                        self.assertFalse(unread_holds(function, spot, tuple(sorted(unread + (label,)))))
                    if len(labels) <= 5:
                        rows = [row for count in range(len(labels) + 1) for row in combinations(labels, count) if unread_holds(function, spot, row)]
                        self.assertEqual(unread, tuple(sorted(set().union(*rows))))
                    told += len(contents)
                    lots += len(unread)
        self.assertGreater(told, 500)
        self.assertGreater(lots, 500)

    def test_no_pair_more(self):
        """No other plain paper that holds tells anything else."""
        for rng in sources(60, seed=3):
            module = any_module(rng)
            function = rng.choice(module[1])
            operands = [("n", 0), ("n", 1)] + [op[3][0] for block in function[3] for op in block[2] if op[1] == "store"] + [("v", op[0]) for block in function[3] for op in block[2] if op[1] == "load"]
            for spot in spots_of(function)[:3]:
                best = dict(best_contents(function, spot))
                params = {label: [("v", value) for value, _ in params] for label, params, _, _ in function[3]}
                for _ in range(20):
                    label, operand = rng.choice(sorted(params)), rng.choice(operands)
                    for other in (((label, operand),), tuple(sorted({**best, label: operand}.items()))):
                        if operand not in params[label] and contents_hold(function, spot, other):
                            self.assertEqual(best.get(label), operand)


class Memory(Passes, unittest.TestCase):
    def check(self, module, words=True):
        paper = pass_memory(module)
        self.assertIs(is_remembered(module), paper == ())
        row, later = self.made(module, paper, ("forward", "load_out", "store_out"))
        for now, step in row:
            self.assertIn(step, list(steps_by_words(function_of(now, step[1]))))
        self.assertLessEqual(len(paper), sum(op[1] in ("load", "store") for function in module[1] for block in function[3] for op in block[2]))
        self.assertIs(is_remembered(later), True)
        self.assertEqual(pass_memory(later), ())
        if words:
            self.assertIs(remembered_by_words(module), paper == ())
            self.assertIs(remembered_by_words(later), True)
        return paper, later

    def leads(self, body, later, head="define i8 @f(ptr, i8, i1){ "):
        paper, new = self.check(admitted_text(TABLE + head + body + "}" + MAIN))
        self.assertEqual(flat(new), flat(admitted_text(TABLE + head + later + "}" + MAIN)))
        return [step[0] if step[0] != "store_out" else step[4][0] for step in paper]

    def stays(self, body):
        self.assertEqual(self.leads(body, body), [])

    def test_each_kind_of_step(self):
        self.assertEqual(self.leads("b0(): store i8 $1, @t $3 = load i8 @t return $3", "b0(): store i8 $1, @t return $1"), ["forward"])
        self.assertEqual(self.leads("b0(): $3 = load i8 @t return 0", "b0(): return 0"), ["load_out"])
        self.assertEqual(self.leads("b0(): $3 = load i8 @t store i8 $3, @t return $3", "b0(): $3 = load i8 @t return $3"), ["same"])
        self.assertEqual(self.leads("b0(): store i8 1, @t store i8 2, @t return 0", "b0(): store i8 2, @t return 0"), ["unread"])
        self.assertEqual(self.leads("b0(): store i8 1, @t stop", "b0(): stop"), ["unread"])

    def test_what_stays(self):
        for body in ("b0(): $3 = load i8 @t return $3", "b0(): $3 = load i8 $0 return 0", "b0(): store i8 1, @t return 0", "b0(): store i8 1, $0 stop", "b0(): store i8 1, @t $3 = load i8 $0 return $3",
                     "b0(): store i8 1, @t $3 = call @main() store i8 2, @t return 0", "b0(): $3 = load i8 $0 store i8 1, @t $4 = load i8 $0 $5 = add i8 $3, $4 return $5",
                     "b0(): $3 = at i8 @t, 2 $4 = load i8 $3 return 0", "b0(): $3 = at i8 @t, 2 store i8 2, $3 return 0", "b0(): store i8 1, $0 store i8 2, $0 return 0"):
            self.stays(body)

    def test_places_that_may_be_no_cell(self):
        """A store there goes only where a content ahead tells that there is a cell."""
        self.stays("b0(): store i8 1, $0 store i8 2, $0 return 0")
        self.assertEqual(self.leads("b0(): $3 = load i8 $0 store i8 1, $0 store i8 2, $0 return $3", "b0(): $3 = load i8 $0 store i8 2, $0 return $3"), ["unread"])

    def test_places_apart_between(self):
        self.leads("b0(): $3 = load i8 @t store i8 9, @u $4 = load i8 @t $5 = add i8 $3, $4 return $5", "b0(): $3 = load i8 @t store i8 9, @u $5 = add i8 $3, $3 return $5")
        self.leads("b0(): $3 = alloca i8, 2 $4 = at i8 $3, 1 store i8 1, $3 store i8 2, $4 store i8 3, $0 $5 = call @main() $6 = load i8 $3 $7 = load i8 $4 $8 = add i8 $6, $7 return $8",
                   "b0(): $3 = alloca i8, 2 $4 = at i8 $3, 1 store i8 3, $0 $5 = call @main() $8 = add i8 1, 2 return $8")

    def test_private_allocas_that_nobody_loads(self):
        self.leads("b0(): $3 = alloca i8, 1 jump b1(0) b1(i8 $4): store i8 $4, $3 $5 = add i8 $4, 1 branch $2, b1($5), b2() b2(): return $4",
                   "b0(): $3 = alloca i8, 1 jump b1(0) b1(i8 $4): $5 = add i8 $4, 1 branch $2, b1($5), b2() b2(): return $4")

    def test_over_blocks(self):
        self.leads("b0(): store i8 5, @t branch $2, b1(), b3() b1(): $3 = load i8 @t print i8 $3 branch $2, b3(), b2() b2(): $4 = load i8 @t store i8 $4, @t jump b3() b3(): $5 = load i8 @t return $5",
                   "b0(): store i8 5, @t branch $2, b1(), b3() b1(): print i8 5 branch $2, b3(), b2() b2(): jump b3() b3(): return 5")

    def test_loads_in_loops(self):
        """Behind a load the content is what it loads: round a loop this is another operand than the one ahead of it."""
        self.stays("b0(): store i8 5, @t jump b1() b1(): $3 = load i8 @t print i8 $3 branch $2, b1(), b2() b2(): return 0")
        self.leads("b0(): store i8 5, @t jump b1() b1(): $3 = load i8 @t $4 = load i8 @t $5 = add i8 $3, $4 store i8 $5, @t branch $2, b1(), b2() b2(): return 0",
                   "b0(): store i8 5, @t jump b1() b1(): $3 = load i8 @t $5 = add i8 $3, $3 store i8 $5, @t branch $2, b1(), b2() b2(): return 0")

    def test_one_step_behind_another(self):
        """What is forwarded tells more of other cells, and of where pointers go."""
        self.leads("b0(): store i8 1, @u $3 = load i8 @u $4 = at i8 @t, $3 store i8 7, $4 $5 = load i8 @t $6 = at i8 @t, 1 $7 = load i8 $6 $8 = add i8 $5, $7 return $8",
                   "b0(): store i8 1, @u $4 = at i8 @t, 1 store i8 7, $4 $5 = load i8 @t $6 = at i8 @t, 1 $8 = add i8 $5, 7 return $8")

    def test_unreached_blocks(self):
        self.leads("b0(): return 0 b1(): store i8 4, @t $3 = load i8 @t print i8 $3 $4 = load i8 @u jump b1()", "b0(): return 0 b1(): print i8 4 jump b1()")

    def test_runs_that_are_cut(self):
        """The runs of what comes agree with those of the first module at every fuel."""
        for rng in sources(60, seed=5):
            module = any_module(rng)
            later = self.check(module, False)[1]
            for inputs in INPUTS[:3]:
                for fuel in range(0, 40, 3):
                    for more in (0, 2, 9):
                        self.assertTrue(agree_so_far(run_module(module, inputs, fuel), run_module(later, inputs, fuel + more)))

    def test_drawn(self):
        words = {}
        for rng in sources(120, seed=1):
            module = any_module(rng)
            paper, later = self.check(module, sum(len(block[2]) for function in module[1] for block in function[3]) < 40)
            for step in paper:
                word = step[0] if step[0] != "store_out" else step[4][0]
                words[word] = words.get(word, 0) + 1
            self.same_ends(module, later, paper)
        self.assertEqual(set(words), {"forward", "load_out", "same", "unread"})
        self.assertGreater(min(words.values()), 5)

    def test_inside_or_not(self):
        for place, told in (("@t", True), ("$3", True), ("$4", False), ("$0", False)):
            module = admitted_text(TABLE + f"define i8 @f(ptr){{ b0(): $3 = at i8 @t, 1 $4 = at i8 @t, 2 $5 = load i8 {place} return 0 }}" + MAIN)
            spot = goes_to(module[1][0], module[1][0][3][0][2][2])
            self.assertIs(inside(module, module[1][0], spot), told)
            self.assertIs(is_remembered(module), not told)


if __name__ == "__main__":
    unittest.main()
