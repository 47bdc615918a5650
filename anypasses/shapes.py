"""What stands in ops, endings, blocks and functions, taken apart ([9], [13])."""


def end_targets(end):
    """The targets of an ending, from left to right."""
    if end[0] == "jump":
        return (end[1],)
    if end[0] == "branch":
        return (end[2], end[3])
    return ()


def end_operands(end):
    """The operands of an ending, from left to right."""
    if end[0] == "return":
        return () if end[1] is None else (end[1],)
    operands = [end[1]] if end[0] == "branch" else []
    for _, args in end_targets(end):
        operands.extend(args)
    return tuple(operands)


def block_values(block):
    """The values that a block defines, in the order of their definitions; None where an op defines nothing."""
    return [value for value, _ in block[1]] + [op[0] for op in block[2]]


def defined_values(function):
    """The values that a function defines, in the order of their definitions, as often as they are defined."""
    values = [at for at, _ in enumerate(function[1])]
    for block in function[3]:
        values.extend([value for value in block_values(block) if value is not None])
    return values


def first_blocks(function):
    """For each label the index of the first block that bears it."""
    found = {}
    for at, block in enumerate(function[3]):
        found.setdefault(block[0], at)
    return found
