"""Operands put in the place of values, wherever these are operands: in ops, in ends, in whole functions.

`swaps` is a dict that has an operand for some values; all of them are put in at once, none into another one."""

from anypasses.shapes import end_targets


def swapped(operand, swaps):
    """What stands in the place of an operand."""
    return swaps.get(operand[1], operand) if operand[0] == "v" else operand


def swapped_all(operands, swaps):
    return tuple([swapped(operand, swaps) for operand in operands])


def swapped_op(op, swaps):
    value, kind, info, args = op
    return (value, kind, info, swapped_all(args, swaps))


def with_targets(end, targets):
    """The end with these targets instead of its own ones, of which there are as many."""
    if end[0] == "jump":
        return ("jump", targets[0])
    if end[0] == "branch":
        return ("branch", end[1], targets[0], targets[1])
    return end


def swapped_end(end, swaps):
    if end[0] == "return":
        return end if end[1] is None else ("return", swapped(end[1], swaps))
    if end[0] == "branch":
        end = ("branch", swapped(end[1], swaps), end[2], end[3])
    return with_targets(end, [(label, swapped_all(args, swaps)) for label, args in end_targets(end)])


def swapped_block(block, swaps):
    """The block with other operands; its params and the values of its ops keep their numbers."""
    label, params, ops, end = block
    return (label, params, tuple([swapped_op(op, swaps) for op in ops]), swapped_end(end, swaps))


def swapped_function(function, swaps):
    name, params, result, blocks = function
    return (name, params, result, tuple([swapped_block(block, swaps) for block in blocks]))
