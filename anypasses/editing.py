"""Functions of a module and blocks of a function, found and changed; all labels of a function are unlike here."""

from anypasses.shapes import block_values, defined_values, end_operands, end_targets
from anypasses.swapping import with_targets


def function_named(module, name):
    """The function of this name, which there is."""
    return [function for function in module[1] if function[0] == name][0]


def with_function(module, function):
    """The module with this function instead of the one of its name."""
    return (module[0], tuple([function if other[0] == function[0] else other for other in module[1]]))


def with_blocks(function, blocks):
    """The function with these blocks instead of its own ones."""
    name, params, result, _ = function
    return (name, params, result, tuple(blocks))


def with_block(function, block):
    """The function with this block instead of the one of its label."""
    return with_blocks(function, [block if other[0] == block[0] else other for other in function[3]])


def with_end(block, end):
    return (block[0], block[1], block[2], end)


def blocks_by_label(function):
    return {block[0]: block for block in function[3]}


def makers_of(function):
    """For each value that an op of the function makes this op."""
    return {op[0]: op for block in function[3] for op in block[2] if op[0] is not None}


def homes_of(function):
    """For each value that a block makes the pair of its label and the index of the op, -1 for a param."""
    homes = {}
    for label, params, ops, _ in function[3]:
        for value, _ in params:
            homes[value] = (label, -1)
        for at, op in enumerate(ops):
            if op[0] is not None:
                homes[op[0]] = (label, at)
    return homes


def block_operands(block):
    """All operands of a block's ops and of its end."""
    operands = []
    for op in block[2]:
        operands.extend(op[3])
    operands.extend(end_operands(block[3]))
    return operands


def used_in(block):
    """The values that are operands in a block, as keys of a dict."""
    return {operand[1]: True for operand in block_operands(block) if operand[0] == "v"}


def used_values(function):
    """The values that are operands somewhere in a function, as keys of a dict."""
    return {value: True for block in function[3] for value in used_in(block)}


def used_counts(function):
    """For each value that is an operand in a function how often it is one."""
    counts = {}
    for block in function[3]:
        for word, thing in block_operands(block):
            if word == "v":
                counts[thing] = counts.get(thing, 0) + 1
    return counts


def is_wanted_elsewhere(function, block):
    """Whether something that a block makes is an operand in another block."""
    made = {value: True for value in block_values(block) if value is not None}
    return any([value in made for other in function[3] if other[0] != block[0] for value in used_in(other)])


def free_label(function):
    """The least number that is greater than all labels of a function."""
    return max([block[0] for block in function[3]]) + 1


def free_value(function):
    """The least number that is greater than all values of a function."""
    return max(defined_values(function), default=-1) + 1


def ways_by_label(function):
    """For each label the ways into its block, ascending: pairs of the label of a block and the index of a target."""
    ways = {label: [] for label in blocks_by_label(function)}
    for block in sorted(function[3], key=lambda row: row[0]):
        for at, (label, _) in enumerate(end_targets(block[3])):
            ways[label].append((block[0], at))
    return ways


def retargeted(function, change):
    """The function with the targets that `change(label, at, target)` tells for each one of each block."""
    blocks = []
    for block in function[3]:
        targets = [change(block[0], at, target) for at, target in enumerate(end_targets(block[3]))]
        blocks.append(with_end(block, with_targets(block[3], targets)))
    return with_blocks(function, blocks)


def without_places(things, places):
    """The tuple without what stands at these indices, keys of a dict."""
    return tuple([thing for at, thing in enumerate(things) if at not in places])


def with_ops(function, change):
    """The function with the ops that `change(op)` tells for each of its ops."""
    blocks = []
    for label, params, ops, end in function[3]:
        blocks.append((label, params, tuple([change(op) for op in ops]), end))
    return with_blocks(function, blocks)


def with_functions(module, change):
    """The module with the functions that `change(function)` tells for each of its functions."""
    return (module[0], tuple([change(function) for function in module[1]]))


def without_value(function, value):
    """The function without the op that makes a value."""
    blocks = []
    for label, params, ops, end in function[3]:
        blocks.append((label, params, tuple([op for op in ops if op[0] != value]), end))
    return with_blocks(function, blocks)
