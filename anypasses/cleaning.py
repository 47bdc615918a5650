"""Blocks and branches that a function does without ([52])."""

from anypasses.editing import blocks_by_label, function_named, ways_by_label
from anypasses.fewerblocks import is_passed_through, joinable_source, taken_target
from anypasses.flow_steps import apply_flow
from anypasses.webs import reached_labels


def picking_steps(function):
    return [("pick", function[0], block[0]) for block in function[3] if taken_target(block[3]) is not None]


def joining_steps(function, ways):
    """A step that joins a block of a function all blocks of which are reached; none if no block can be joined."""
    blocks = blocks_by_label(function)
    for label in blocks:
        if joinable_source(blocks, ways[label], label) is not None:
            return [("join", function[0], label)]
    return []


def bending_steps(function, ways):
    """Steps that bend all ways into some block past it; none if there is no such block."""
    for block in function[3]:
        if len(ways[block[0]]) > 0 and is_passed_through(function, block):
            return [("bend", function[0], label, at) for label, at in ways[block[0]]]
    return []


def cleaning_steps(function):
    """Some steps that fit a function one after another and make it cleaner; none if it is clean.

    All ways into a block that are bent past it at once leave it unreached. So each round takes a block or a branch away
    for good, also where empty blocks jump round in a ring."""
    steps = picking_steps(function)
    if len(steps) > 0:
        return steps
    if len(reached_labels(function)) < len(function[3]):
        return [("drop", function[0])]
    ways = ways_by_label(function)
    steps = joining_steps(function, ways)
    return steps if len(steps) > 0 else bending_steps(function, ways)


def cleaned(module, name):
    """The module in which a function of this name is clean, and the steps that lead to it."""
    paper = []
    steps = cleaning_steps(function_named(module, name))
    while len(steps) > 0:
        for step in steps:
            module = apply_flow(module, step)
            paper.append(step)
        steps = cleaning_steps(function_named(module, name))
    return module, tuple(paper)


def pass_clean(module):
    """Some paper that leads a module to a clean one."""
    paper = ()
    for function in module[1]:
        module, more = cleaned(module, function[0])
        paper = paper + more
    return paper


def is_clean(module):
    """Whether no function of a module can be made cleaner."""
    return all([len(cleaning_steps(function)) == 0 for function in module[1]])
