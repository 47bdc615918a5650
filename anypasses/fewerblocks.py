"""What the flow steps do that make blocks fewer, or ways shorter ([36]).

Each of these tells the function behind a step, or None if the condition of the step does not hold."""

from anypasses.editing import blocks_by_label, is_wanted_elsewhere, retargeted, ways_by_label, with_block, with_blocks
from anypasses.editing import with_end
from anypasses.shapes import end_targets
from anypasses.swapping import swapped_all, swapped_function
from anypasses.webs import reached_labels


def taken_target(end):
    """The target to which a branch surely goes, or None."""
    if end[0] != "branch":
        return None
    if end[2] == end[3]:
        return end[2]
    if end[1][0] != "n":
        return None
    return end[2] if end[1][1] == 1 else end[3]


def picked(function, block):
    target = taken_target(block[3])
    if target is None:
        return None
    return with_block(function, with_end(block, ("jump", target)))


def dropped(function):
    there = {label: True for label in reached_labels(function)}
    kept = [block for block in function[3] if block[0] in there]
    return with_blocks(function, kept) if len(kept) < len(function[3]) else None


def joinable_source(blocks, ways, label):
    """The block into which a reached block can be joined, or None; the ways are those into this block."""
    if len(ways) != 1 or ways[0][0] == label:
        return None
    source = blocks[ways[0][0]]
    return source if source[3][0] == "jump" else None


def params_swapped(params, args):
    """What stands in the place of params to which these args are handed."""
    return {value: arg for (value, _), arg in zip(params, args)}


def joined(function, block):
    if block[0] not in reached_labels(function):
        return None
    source = joinable_source(blocks_by_label(function), ways_by_label(function)[block[0]], block[0])
    if source is None:
        return None
    whole = (source[0], source[1], source[2] + block[2], block[3])
    blocks = [whole if other[0] == source[0] else other for other in function[3] if other[0] != block[0]]
    return swapped_function(with_blocks(function, blocks), params_swapped(block[1], source[3][1][1]))


def is_passed_through(function, block):
    """Whether a block does nothing but jump to another one, and what it makes is wanted by this jump alone."""
    if len(block[2]) > 0 or block[3][0] != "jump" or block[3][1][0] == block[0]:
        return False
    return not is_wanted_elsewhere(function, block)


def bent(function, block, at):
    label, args = end_targets(block[3])[at]
    middle = blocks_by_label(function)[label]
    if not is_passed_through(function, middle):
        return None
    goal, handed = middle[3][1]
    target = (goal, swapped_all(handed, params_swapped(middle[1], args)))
    return retargeted(function, lambda source, k, old: target if (source, k) == (block[0], at) else old)
