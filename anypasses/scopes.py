"""What is known of a function while its parts are looked at one after another ([15])."""

from anypasses.parts import types_by_value
from anypasses.shapes import first_blocks
from anypasses.standing import Standing


class Scope:
    """The names, types and params that the parts of a function may speak of.

    `before` has the values that were defined ahead of the part that is looked at, `stood` the bits of those that stand
    there."""

    def __init__(self, module, function):
        self.places = {place[0]: True for place in module[0]}
        self.signatures = {other[0]: (other[1], other[2]) for other in module[1]}
        self.result = function[2]
        self.kinds = types_by_value(module, function)
        first = first_blocks(function)
        self.block_kinds = {label: [kind for _, kind in function[3][first[label]][1]] for label in first}
        self.first_label = function[3][0][0]
        self.standing = Standing(function)
        self.before = {at: True for at, _ in enumerate(function[1])}
        self.stood = 0

    def begin_block(self, at):
        """Goes to the start of a block, ahead of its params."""
        self.stood = self.standing.starts[at]

    def define(self, value):
        """Goes past a definition, and tells whether the value was defined before."""
        again = value in self.before
        self.before[value] = True
        self.stood = self.stood | self.standing.bits[value]
        return again

    def stands(self, value):
        """Whether a value stands at the place to which this has come."""
        return self.stood & self.standing.bits[value] != 0

    def fits(self, operand, kind):
        """Whether an operand fits a type."""
        word, thing = operand
        if word == "n":
            return kind != "ptr" and thing < 1 << kind
        if word == "g":
            return kind == "ptr" and thing in self.places
        return self.kinds.get(thing) == kind and self.stands(thing)

    def fit(self, operands, wanted):
        """Whether these are as many operands as types are wanted, each of which fits its own."""
        if len(operands) != len(wanted):
            return False
        return all([self.fits(operand, kind) for operand, kind in zip(operands, wanted)])
