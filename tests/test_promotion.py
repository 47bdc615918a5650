"""[62], [63]: promotion papers, and pass promote."""

import unittest

from anypasses.errors import InvalidQuestion, InvalidStep
from anypasses.judge import apply_step
from anypasses.memory_steps import told_cells
from anypasses.places import is_private
from anypasses.promotion import is_promoted, pass_promote, promotion_paper, spare_entries
from anypasses.shapes import defined_values, end_targets
from anypasses.webs import reached_labels
from anypasses.renumbering import renumbered
from making import sources
from passing import MAIN, Passes, any_module, function_of
from stepping import admitted_text, flat

LOOP = """define i8 @main(){ b0(): $0 = alloca i8, 2 $1 = at i8 $0, 1 $2 = input i8 store i8 $2, $1 jump b1() b1(): $3 = load i8 $0 $4 = load i8 $1 $5 = cmp ult i8 $3, $4
    branch $5, b2(), b3() b2(): $6 = add i8 $3, 1 store i8 $6, $0 jump b1() b3(): print i8 $3 return $4 }"""
JUNK = (None, 0, True, "", "paper", b"", [], {}, 1.0, (0,), ((1,),), ((1, ()),), ((1, (("new", 9),)),), [(1, ())], ((True, ()),), ((1, None),))


def fits(module, step):
    try:
        return apply_step(module, step)
    except InvalidStep:
        return None


def spare_by_words(module, name, value, paper):
    """What the judge hands on for each new param is looked at in the module behind the step."""
    later = function_of(apply_step(module, ("promote", name, value, paper)), name)
    found = []
    for label, row in paper:
        params = [value for block in later[3] if block[0] == label for value, _ in block[1]]
        for at, entry in enumerate(row):
            if entry[0] == "new":
                place = params.index(entry[1])
                handed = {target[1][place] for block in later[3] for target in end_targets(block[3]) if target[0] == label} - {("v", entry[1])}
                if len(handed) == 1:
                    found.append((label, at, handed.pop()))
    return found


def full(function, value):
    """The paper with a new param everywhere."""
    new = iter(range(max(defined_values(function), default=0) + 1, 10 ** 6))
    labels = sorted(block[0] for block in function[3][1:])
    return tuple((label, tuple(("new", next(new)) for _ in told_cells(function, value))) for label in labels)


def with_entry(paper, label, at, operand):
    """The paper with an operand in the place of a new entry, and of its value everywhere."""
    new = dict(paper)[label][at]

    def put(entry):
        return operand if entry in (new, ("v", new[1])) else entry

    return tuple((label, tuple(put(entry) for entry in row)) for label, row in paper)


def promotable(module):
    """The pairs (name, value) of what has told cells in functions all blocks of which are reached."""
    return [(function[0], op[0]) for function in module[1] if len(reached_labels(function)) == len(function[3]) for block in function[3] for op in block[2]
            if op[1] == "alloca" and told_cells(function, op[0]) is not None]


class Papers(Passes, unittest.TestCase):
    def test_new_values_everywhere(self):
        function = admitted_text(LOOP)[1][0]
        paper = ((1, (("new", 10), ("new", 11))), (2, (("new", 12), ("new", 13))), (3, (("new", 14), ("new", 15))))
        self.assertEqual(spare_entries(function, 0, paper), ((2, 0), (2, 1), (3, 0), (3, 1)))

    def test_ever_fewer(self):
        """What is handed on from itself alone round the loop is spare only when the loop's own params are put in."""
        function = admitted_text(LOOP)[1][0]
        both, first, second, stored = (("new", 10), ("new", 11)), ("v", 10), ("v", 11), ("v", 2)
        for rows, told in (
                ((both, (first, ("new", 13)), (first, second)), ((2, 1),)), ((both, (first, second), (first, second)), ((1, 1),)),
                ((both, (("v", 3), ("v", 4)), (("v", 3), ("new", 15))), ((1, 1), (3, 1))),
                (((("new", 10), stored), (first, stored), (first, stored)), ())):
            self.assertEqual(spare_entries(function, 0, tuple(zip((1, 2, 3), rows))), told, rows)
        paper = promotion_paper(function, 0)
        new = paper[0][1][0][1]
        self.assertEqual(paper, ((1, (("new", new), stored)), (2, (("v", new), stored)), (3, (("v", new), stored))))

    def test_no_cells_and_no_blocks(self):
        function = admitted_text("define i8 @main(){ b0(): $0 = alloca i8, 2 $1 = at i8 $0, 7 jump b1() b1(): return 0 }")[1][0]
        self.assertEqual((promotion_paper(function, 0), spare_entries(function, 0, ((1, ()),))), (((1, ()),), ()))
        function = admitted_text("define i8 @main(){ b0(): $0 = alloca i8, 2 $1 = load i8 $0 return $1 }")[1][0]
        self.assertEqual((promotion_paper(function, 0), spare_entries(function, 0, ())), ((), ()))

    def test_papers_that_make_no_step(self):
        function = admitted_text(LOOP)[1][0]
        good = (("new", 10), ("new", 11))
        for value in JUNK + ((), ((1, good), (2, good), (3, good)), ((1, good),), ((1, (("new", 10),)), (2, (("new", 12),)), (3, (("new", 14),))), ((1, (("n", 0), ("v", 2))), (2, (("n", 0), ("v", 2))), (3, (("n", 0), ("v", 2)))),
                             ((1, (("new", 3), ("v", 2))), (2, (("v", 3), ("v", 2))), (3, (("v", 3), ("v", 2)))), ((1, (("v", 3), ("v", 2))), (2, (("v", 3), ("v", 2))), (3, (("v", 3), ("v", 2)))),
                             ((3, (("new", 10), ("v", 2))), (2, (("v", 10), ("v", 2))), (1, (("v", 10), ("v", 2)))), ((0, good), (1, (("new", 12), ("new", 13))), (2, (("new", 14), ("new", 15))), (3, (("new", 16), ("new", 17))))):
            self.asked_wrong(InvalidQuestion, 2, spare_entries, function, 0, value)

    def test_drawn(self):
        """From new params everywhere to ever fewer, one spare entry after another; the told paper has none."""
        count = 0
        for rng in sources(200):
            module = any_module(rng)
            for name, value in promotable(module)[:3]:
                function = function_of(module, name)
                paper = full(function, value)
                for _ in range(60):
                    spare = spare_by_words(module, name, value, paper)
                    self.assertEqual(spare_entries(function, value, paper), tuple((label, at) for label, at, _ in spare))
                    if not spare:
                        break
                    paper = with_entry(paper, *rng.choice(spare))
                    count += 1
                told = promotion_paper(function, value)
                self.assertEqual(spare_by_words(module, name, value, told), [])
                self.assertEqual(spare_entries(function, value, told), ())
                if paper:
                    label, row = rng.choice(paper)
                    wrong = tuple(pair for pair in paper if pair[0] != label) if rng.random() < 0.5 or not row else tuple((one, (("n", 77),) * len(row) if one == label else row) for one, row in paper)
                    if fits(module, ("promote", name, value, wrong)) is None:
                        self.asked_wrong(InvalidQuestion, 2, spare_entries, function, value, wrong)
        self.assertGreater(count, 300)


class Promote(Passes, unittest.TestCase):
    def check(self, module):
        paper = pass_promote(module)
        self.assertIs(is_promoted(module), paper == ())
        row, later = self.made(module, paper, ("drop", "promote"))
        for now, step in row:
            if step[0] == "promote":
                self.assertEqual(spare_by_words(now, *step[1:]), [])
        many = len(module[1]) + sum(op[1] == "alloca" for function in module[1] for block in function[3] for op in block[2])
        self.assertLessEqual(len(paper), many)
        self.assertIs(is_promoted(later), True)
        self.assertEqual(pass_promote(later), ())
        for function in later[1]:
            self.assertEqual(len(reached_labels(function)), len(function[3]))
            self.assertFalse([op for block in function[3] for op in block[2] if told_cells(function, 0 if op[0] is None else op[0]) is not None])
        return paper, later

    def leads(self, text, later):
        paper, new = self.check(admitted_text(text + MAIN))
        self.assertEqual(flat(renumbered(new)), flat(renumbered(admitted_text(later + MAIN))))
        return [step[:3] for step in paper]

    def test_a_loop(self):
        self.check(admitted_text(LOOP))
        self.leads("define i8 @f(i8){ b0(): $1 = alloca i8, 1 store i8 3, $1 jump b1() b1(): $2 = load i8 $1 $3 = cmp ult i8 $2, $0 branch $3, b2(), b3() b2(): $4 = add i8 $2, 1 store i8 $4, $1 jump b1() b3(): return $2 }",
                   "define i8 @f(i8){ b0(): jump b1(3) b1(i8 $2): $3 = cmp ult i8 $2, $0 branch $3, b2(), b3() b2(): $4 = add i8 $2, 1 jump b1($4) b3(): return $2 }")

    def test_private_only_behind_a_drop(self):
        steps = self.leads("define i8 @f(ptr){ b0(): $1 = alloca i8, 1 store i8 3, $1 $2 = load i8 $1 return $2 b1(): $3 = call @f($1) return $3 }", "define i8 @f(ptr){ b0(): return 3 }")
        self.assertEqual(steps, [("drop", "f"), ("promote", "f", 1)])

    def test_private_only_behind_another_one(self):
        steps = self.leads("define i8 @f(){ b0(): $0 = alloca i8, 4 $1 = alloca i8, 1 store i8 2, $1 $2 = load i8 $1 $3 = at i8 $0, $2 store i8 9, $3 $4 = load i8 $3 return $4 }", "define i8 @f(){ b0(): return 9 }")
        self.assertEqual(steps, [("promote", "f", 1), ("promote", "f", 0)])

    def test_loads_and_stores_outside_or_of_another_width(self):
        for body in ("store i8 1, $3", "$4 = load i8 $3", "store i16 1, $1", "$4 = load i16 $1", "store i8 1, $5"):
            text = "define i8 @f(){ b0(): $1 = alloca i8, 2 $3 = at i8 $1, 2 $5 = at i8 $1, 255 " + body + " return 0 }"
            self.assertEqual(self.leads(text, text), [])
            self.assertTrue(is_private(admitted_text(text + MAIN)[1][0], 1))

    def test_allocas_that_are_shown(self):
        for body in ("$4 = call @f($1)", "$4 = at i8 $1, $2", "$4 = select ptr 1, $1, $1", "jump b1($1) b1(ptr $4):"):
            text = "define i8 @f(ptr){ b0(): $1 = alloca i8, 2 $2 = input i8 " + body + " return 0 }"
            self.assertEqual(self.leads(text, text), [])

    def test_promoted_or_not(self):
        for text, told in (("b0(): return 0", True), ("b0(): return 0 b1(): return 1", False), ("b0(): $0 = alloca i8, 1 return 0", False), ("b0(): $0 = alloca i8, 1 store i16 1, $0 return 0", True)):
            module = admitted_text("define i8 @f(){ " + text + " }" + MAIN)
            self.assertIs(is_promoted(module), told, text)
            self.check(module)

    def test_each_function(self):
        module = admitted_text("define i8 @f(){ b0(): $0 = alloca i8, 1 return 0 b1(): stop } define i8 @main(){ b0(): $0 = alloca i8, 1 $1 = alloca i8, 1 return 0 }")
        self.assertEqual(self.check(module)[0], (("drop", "f"), ("promote", "f", 0, ()), ("promote", "main", 0, ()), ("promote", "main", 1, ())))

    def test_drawn(self):
        many = 0
        for rng in sources(200, seed=1):
            module = any_module(rng)
            paper, later = self.check(module)
            many += sum(step[0] == "promote" for step in paper)
            self.same_ends(module, later, paper)
        self.assertGreater(many, 150)

    def test_large(self):
        """Many cells in many blocks: almost all entries are spare."""
        blocks = "".join(f"b{at}(): $%d = at i16 $0, {at} store i8 {at}, $%d $%d = load i8 $%d branch 1, b{at + 1}(), b{max(1, at - 5)}() " % ((at + 400,) * 2 + (at + 800, at + 400)) for at in range(1, 150))
        module = admitted_text("define i8 @main(){ b0(): $0 = alloca i8, 500 jump b1() " + blocks + "b150(): return 0 }")
        paper = pass_promote(module)
        self.assertIs(is_promoted(apply_step(module, paper[0])), True)


if __name__ == "__main__":
    unittest.main()
