"""Values that are needed, and what is dead as nothing needs it ([53])."""

from anypasses.lots import is_needless_op
from anypasses.pointers import Pointers, global_sizes, pointer_of
from anypasses.pureness import is_division, is_pure
from anypasses.shapes import end_targets


class Needs:
    """What needs what in a function; the values that are needed are found from those that ops and ends need."""

    def __init__(self, module, function):
        self.function = function
        self.sizes = global_sizes(module)
        self.pointers = Pointers(function)
        self.sources = self.handed_operands()
        self.needed = {}
        self.waiting = []
        for _, _, ops, end in function[3]:
            for op in ops:
                if self.is_needing(op):
                    self.need(op[3])
            self.need(() if end[0] in ("jump", "stop") or end[1] is None else (end[1],))
        while len(self.waiting) > 0:
            self.need(self.serving(self.waiting.pop()))

    def handed_operands(self):
        """For each param of a block the operands that targets hand to it."""
        handed = {value: [] for block in self.function[3] for value, _ in block[1]}
        names = {block[0]: [value for value, _ in block[1]] for block in self.function[3]}
        for block in self.function[3]:
            for label, args in end_targets(block[3]):
                for value, arg in zip(names[label], args):
                    handed[value].append(arg)
        return handed

    def is_inner_load(self, op):
        """Whether an op is a load from a place inside."""
        return op[1] == "load" and self.pointers.is_inside(self.sizes, self.pointers.spot(pointer_of(op), op[2][0]))

    def is_needing(self, op):
        """Whether an op needs its operands, whether or not its value is needed."""
        if op[1] == "load":
            return not self.is_inner_load(op)
        return op[1] in ("store", "print", "call") or (is_division(op) and not is_pure(op))

    def need(self, operands):
        for word, thing in operands:
            if word == "v" and thing not in self.needed:
                self.needed[thing] = True
                self.waiting.append(thing)

    def serving(self, value):
        """The operands that are needed if a value is."""
        if value in self.pointers.makers:
            return self.pointers.makers[value][3]
        return self.sources.get(value, [])

    def is_dead_op(self, op):
        """Whether an op is such that it goes if its value is not needed, and this is not needed."""
        if op[0] is None or op[0] in self.needed:
            return False
        return is_needless_op(op) or self.is_inner_load(op)

    def dead(self):
        """The dead values, ascending."""
        found = [value for value in self.sources if value not in self.needed]
        for block in self.function[3]:
            found.extend([op[0] for op in block[2] if self.is_dead_op(op)])
        return tuple(sorted(found))


def needed_values(module, function):
    """The values that a function needs, ascending."""
    return tuple(sorted(Needs(module, function).needed))


def dead_values(module, function):
    """The values that are dead in a function, ascending."""
    return Needs(module, function).dead()


def pointers_of_loads(makers, loads):
    """The values, keys of a dict, of the `at`s and allocas by which these loads from places inside find their cells."""
    found = {}
    for value in loads:
        operand = makers[value][3][0]
        while operand[0] == "v" and operand[1] not in found:
            found[operand[1]] = True
            op = makers[operand[1]]
            operand = operand if op[1] == "alloca" else op[3][0]
    return found


def clearing_steps(module, function):
    """Steps that take all that is dead out of a function.

    A load goes alone, behind all that uses what it loads and ahead of all that its pointer needs."""
    dead = dead_values(module, function)
    makers = Pointers(function).makers
    loads = [value for value in dead if value in makers and makers[value][1] == "load"]
    pointers = pointers_of_loads(makers, loads)
    first = tuple([value for value in dead if value not in loads and value not in pointers])
    last = tuple([value for value in dead if value in pointers])
    steps = [("take_lot", function[0], first)] if len(first) > 0 else []
    steps.extend([("load_out", function[0], value) for value in loads])
    if len(last) > 0:
        steps.append(("take_lot", function[0], last))
    return steps


def pass_dead(module):
    """Some paper that leads a module to the one without all that is dead in it."""
    paper = []
    for function in module[1]:
        paper.extend(clearing_steps(module, function))
    return tuple(paper)


def is_lean(module):
    """Whether nothing is dead in any function of a module."""
    return all([len(dead_values(module, function)) == 0 for function in module[1]])
