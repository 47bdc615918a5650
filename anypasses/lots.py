"""Values that serve one another alone, and are taken out at once ([51])."""

from anypasses.editing import blocks_by_label, retargeted, with_blocks
from anypasses.kinds import are_ascending, is_number
from anypasses.pureness import is_pure
from anypasses.shapes import end_targets
from anypasses.stepforms import want


def is_needless_op(op):
    """Whether nobody misses an op the value of which is not used."""
    return is_pure(op) or op[1] == "alloca"


def takeable_values(function):
    """The values that may be in a lot, as keys of a dict."""
    values = {value: True for block in function[3][1:] for value, _ in block[1]}
    for block in function[3]:
        for op in block[2]:
            if is_needless_op(op):
                values[op[0]] = True
    return values


def is_lot(function, value):
    """Whether any value is a lot of a function."""
    if not isinstance(value, tuple) or len(value) == 0 or not all([is_number(one) for one in value]):
        return False
    known = takeable_values(function)
    return are_ascending(value) and all([one in known for one in value])


def is_free_of(operands, lot):
    """Whether none of these operands is a value of the lot, told by a dict."""
    return all([operand[0] != "v" or operand[1] not in lot for operand in operands])


def kept_args(params, args, lot):
    """The args that are handed to params that are not in the lot."""
    return tuple([arg for (value, _), arg in zip(params, args) if value not in lot])


def is_end_free_of(blocks, end, lot):
    """Whether an end has no value of the lot but as args that it hands to params in the lot."""
    if end[0] == "branch" and not is_free_of((end[1],), lot):
        return False
    if end[0] == "return" and end[1] is not None:
        return is_free_of((end[1],), lot)
    return all([is_free_of(kept_args(blocks[label][1], args, lot), lot) for label, args in end_targets(end)])


def serves_itself(function, lot):
    """Whether the values of a lot are operands only of one another's ops, and where they are handed to its params."""
    blocks = blocks_by_label(function)
    for block in function[3]:
        if not all([op[0] in lot or is_free_of(op[3], lot) for op in block[2]]):
            return False
        if not is_end_free_of(blocks, block[3], lot):
            return False
    return True


def lot_taken(function, values):
    """The function without the ops and params of any value, a lot, and without the args handed to these."""
    want(is_lot(function, values), 2)
    lot = {value: True for value in values}
    want(serves_itself(function, lot), 3)
    params = {block[0]: block[1] for block in function[3]}

    def change(label, at, target):
        return (target[0], kept_args(params[target[0]], target[1], lot))

    blocks = []
    for label, olds, ops, end in retargeted(function, change)[3]:
        kept = tuple([param for param in olds if param[0] not in lot])
        blocks.append((label, kept, tuple([op for op in ops if op[0] not in lot]), end))
    return with_blocks(function, blocks)
