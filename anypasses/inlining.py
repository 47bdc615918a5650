"""Functions put in the place of their calls ([43])."""

from anypasses.calling import is_call_of
from anypasses.editing import free_label, free_value, used_counts, with_blocks
from anypasses.moreblocks import with_values
from anypasses.shapes import defined_values, end_targets
from anypasses.swapping import swapped_block, with_targets

MOST_BLOCKS = 200
MOST_OPS = 2000


def count_of_ops(function):
    return sum([len(block[2]) for block in function[3]])


def is_room_for(function, callee):
    """Whether a function is not too large with another one in the place of a call."""
    if len(function[3]) + len(callee[3]) + 1 > MOST_BLOCKS:
        return False
    return count_of_ops(function) - 1 + count_of_ops(callee) <= MOST_OPS


def led_end(end, labels, last):
    """The end of a copy: with the new labels, a return being a jump to the last one."""
    if end[0] == "return":
        return ("jump", (last, () if end[1] is None else (end[1],)))
    return with_targets(end, [(labels[label], args) for label, args in end_targets(end)])


def copies_of(callee, args, first_label, first_value):
    """Copies of the blocks of a function with args in the place of its params; returns jump behind them."""
    labels = {block[0]: first_label + at for at, block in enumerate(callee[3])}
    others = defined_values(callee)[len(args):]
    news = {value: first_value + at for at, value in enumerate(others)}
    swaps = dict(enumerate(args))
    for value in news:
        swaps[value] = ("v", news[value])
    copies = []
    for block in callee[3]:
        label, params, ops, end = with_values(swapped_block(block, swaps), labels[block[0]], news)
        copies.append((label, params, ops, led_end(end, labels, first_label + len(callee[3]))))
    return copies


def inlined(function, callee, at, index):
    """The function with another one, or itself, in the place of its call at an index of the block with this index."""
    label, params, ops, end = function[3][at]
    value, _, _, args = ops[index]
    first = free_label(function)
    copies = copies_of(callee, args, first, free_value(function))
    head = (label, params, ops[:index], ("jump", (first, ())))
    told = () if value is None else ((value, callee[2]),)
    last = (first + len(copies), told, ops[index + 1:], end)
    blocks = list(function[3])
    blocks[at] = head
    return with_blocks(function, blocks + copies + [last])


def is_tail_call(function, block, counts):
    """Whether the last op of a block calls its own function, and what it tells is returned and not used otherwise."""
    _, _, ops, end = block
    if len(ops) == 0 or not is_call_of(ops[-1], function[0]) or end[0] != "return":
        return False
    value = ops[-1][0]
    if value is None:
        return True
    return end[1] == ("v", value) and counts[value] == 1


def tail_looped(function):
    """The function with jumps in the place of its tail calls; None if it has none."""
    name, params, result, blocks = function
    counts = used_counts(function)
    tails = {block[0]: True for block in blocks if is_tail_call(function, block, counts)}
    if len(tails) == 0:
        return None
    first = free_value(function)
    swaps = {at: ("v", first + at) for at, _ in enumerate(params)}
    entry = blocks[0][0]
    handed = tuple([("v", at) for at, _ in enumerate(params)])
    looped = [(free_label(function), (), (), ("jump", (entry, handed)))]
    for block in blocks:
        label, olds, ops, end = swapped_block(block, swaps)
        if label in tails:
            end = ("jump", (entry, ops[-1][3]))
            ops = ops[:-1]
        news = tuple([(first + at, kind) for at, kind in enumerate(params)]) if label == entry else olds
        looped.append((label, news, ops, end))
    return (name, params, result, tuple(looped))
