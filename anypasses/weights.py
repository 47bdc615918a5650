"""How much the ops of a function weigh ([58])."""

from anypasses.editing import blocks_by_label
from anypasses.orders import defining_order
from anypasses.pureness import is_division

WEIGHED = ("bin", "cmp", "select", "cast", "at")
TURNABLE = ("add", "mul", "and", "or", "xor", "eq", "ne")


def is_weighed(op):
    return op[1] in WEIGHED


def plain_weight(op):
    """The weight of a weighed op without what it weighs more for a number as its first arg."""
    if op[1] != "bin":
        return 1 if op[1] == "at" else 2
    if is_division(op):
        return 9
    return {"mul": 8, "sub": 4}.get(op[2][0], 3)


def is_turned(op):
    """Whether an op has a number first where its args might stand the other way round."""
    return op[1] in ("bin", "cmp") and op[2][0] in TURNABLE and op[3][0][0] == "n"


def op_weight(op):
    """The weight of an op, 0 if it is not weighed."""
    if not is_weighed(op):
        return 0
    return plain_weight(op) + (1 if is_turned(op) else 0)


def reached_ops(function):
    """The ops of the reached blocks of a function, each behind those that make what it uses."""
    blocks = blocks_by_label(function)
    return [op for label in defining_order(function) for op in blocks[label][2]]


def weight(function):
    """The pair of the sums of all weights and of all heights of the weighed ops in reached blocks."""
    ops = [op for op in reached_ops(function) if is_weighed(op)]
    heights = {}
    for op in ops:
        heights[op[0]] = 1 + max([heights.get(thing, 0) for word, thing in op[3] if word == "v"], default=0)
    return (sum([op_weight(op) for op in ops]), sum([heights[op[0]] for op in ops]))
