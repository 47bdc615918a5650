"""The pointers of a function: what they point to, and whether two may point to one cell ([39])."""

from anypasses.editing import makers_of
from anypasses.numbers import signed
from anypasses.shapes import end_operands


def is_shift(op):
    """Whether an op is an `at` with a number."""
    return op is not None and op[1] == "at" and op[3][1][0] == "n"


def is_any_shift(op):
    return op is not None and op[1] == "at"


def global_sizes(module):
    """For each global its width and its size."""
    return {name: (width, size) for name, width, size, _ in module[0]}


def pointer_of(op):
    """The pointer by which a load or a store goes to its cell."""
    return op[3][1] if op[1] == "store" else op[3][0]


class Pointers:
    """The ops of a function that make pointers, and the allocas that are private, as keys of a dict.

    Only unreached blocks may have rows of `at`s that go round; these have None as their root and as their base."""

    def __init__(self, function):
        self.makers = makers_of(function)
        self.many_params = len(function[1])
        self.privates = self.found_privates(function)

    def spot(self, operand, width):
        """The place of a pointer operand: its root, its offset, the width."""
        offset = 0
        passed = {}
        while operand[0] == "v" and is_shift(self.makers.get(operand[1])):
            if operand in passed:
                return (None, 0, width)
            passed[operand] = True
            op = self.makers[operand[1]]
            offset = offset + signed(op[3][1][1], op[2][0])
            operand = op[3][0]
        return (operand, offset, width)

    def root(self, operand):
        return self.spot(operand, 1)[0]

    def ground(self, operand):
        """What is behind all `at`s of a pointer operand; also that of None is None."""
        passed = {}
        while operand is not None and operand[0] == "v" and is_any_shift(self.makers.get(operand[1])):
            if operand in passed:
                return None
            passed[operand] = True
            operand = self.makers[operand[1]][3][0]
        return operand

    def alloca_of(self, operand):
        """The alloca that makes an operand, or None; so for None."""
        if operand is None or operand[0] != "v" or operand[1] not in self.makers:
            return None
        op = self.makers[operand[1]]
        return op if op[1] == "alloca" else None

    def found_privates(self, function):
        """The values of the private allocas: nothing but loads, stores and `at`s with numbers may use them."""
        told = {value: True for value in self.makers if self.makers[value][1] == "alloca"}
        for block in function[3]:
            shown = list(end_operands(block[3]))
            for op in block[2]:
                if op[1] not in ("load", "store") and not is_shift(op):
                    shown.extend(op[3])
            for operand in shown:
                root = self.root(operand)
                if root is not None and root[0] == "v" and root[1] in told:
                    del told[root[1]]
        return told

    def is_alloca(self, operand):
        return self.alloca_of(operand) is not None

    def is_private_base(self, operand):
        """Whether an operand, or None, is a private alloca's."""
        return self.is_alloca(operand) and operand[1] in self.privates

    def is_fixed(self, operand):
        """Whether an operand, or None, is a global or an alloca's."""
        return operand is not None and (operand[0] == "g" or self.is_alloca(operand))

    def is_param(self, operand):
        """Whether an operand, or None, is a param of the function."""
        return operand is not None and operand[0] == "v" and operand[1] < self.many_params

    def are_apart(self, one, other):
        """Whether two places are surely no common cell."""
        if one[2] != other[2]:
            return True
        if one[0] == other[0] and one[1] != other[1]:
            return True
        first, second = self.ground(one[0]), self.ground(other[0])
        if first == second:
            return False
        if self.is_fixed(first) and self.is_fixed(second):
            return True
        if self.is_private_base(first) or self.is_private_base(second):
            return True
        return (self.is_alloca(first) and self.is_param(second)) or (self.is_param(first) and self.is_alloca(second))

    def is_inside(self, sizes, place):
        """Whether a place is a cell of a global or of an alloca's object; `sizes` has (width, size) of each global."""
        root, offset, width = place
        if root is None:
            return False
        op = self.alloca_of(root)
        found = sizes.get(root[1]) if root[0] == "g" else None if op is None else op[2]
        return found is not None and width == found[0] and offset >= 0 and offset < found[1]
