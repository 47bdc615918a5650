"""Functions the ops of which are renewed one after another."""

from anypasses.editing import with_blocks
from anypasses.shapes import defined_values
from anypasses.swapping import swapped_block


class FreshValues:
    """The numbers that are no values of a function, the least one first."""

    def __init__(self, function):
        self.known = {value: True for value in defined_values(function)}
        self.following = 0

    def take(self):
        """A number that was not taken before."""
        while self.following in self.known:
            self.following += 1
        self.following += 1
        return self.following - 1


class Renewal:
    """A function that is renewed, and the steps for it.

    `swaps` has what came in the place of a value that was replaced; that may have been replaced since then itself. It
    is put into ops when these are looked at, so that a step takes no copy of the whole function."""

    def __init__(self, function):
        self.function = function
        self.name = function[0]
        self.swaps = {}
        self.steps = []

    def now(self, operand):
        """What stands in the place of an operand by now."""
        while operand[0] == "v" and operand[1] in self.swaps:
            operand = self.swaps[operand[1]]
        return operand

    def op_now(self, op):
        """An op with the operands that it has by now."""
        return (op[0], op[1], op[2], tuple([self.now(arg) for arg in op[3]]))

    def put(self, value, operand, reason):
        """Puts an operand in the place of a value."""
        self.steps.append(("use", self.name, value, operand, reason))
        self.swaps[value] = operand

    def renew(self, value, operand, reason):
        """Puts an operand in the place of a value, and takes out the op that made it."""
        self.put(value, operand, reason)
        self.steps.append(("take_out", self.name, value))

    def renewed(self, rows):
        """The function as it is by now, `rows` having the ops of some of its blocks by their labels."""
        swaps = {value: self.now(("v", value)) for value in self.swaps}
        blocks = []
        for label, params, ops, end in self.function[3]:
            kept = tuple(rows[label]) if label in rows else ops
            blocks.append(swapped_block((label, params, kept, end), swaps))
        return with_blocks(self.function, blocks)
