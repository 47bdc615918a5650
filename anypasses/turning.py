"""Loops that test at the end of each round, not at its beginning ([69])."""

from anypasses.carrying import carry_steps
from anypasses.editing import blocks_by_label
from anypasses.fewerblocks import dropped
from anypasses.looping import Loops
from anypasses.moreblocks import twinned


def is_unturned(blocks, loops, head):
    """Whether the rounds of a loop begin with a test, and end without one."""
    end = blocks[head][3]
    if end[0] != "branch":
        return False
    within = [label for label, _ in end[2:] if label in loops.labels[head]]
    if len(within) != 1 or within[0] == head:
        return False
    return all([blocks[source][3][0] == "jump" for source, _ in loops.inner_ways(head)])


def unturned_heads(function):
    """The heads of the loops of a function that are unturned."""
    blocks = blocks_by_label(function)
    loops = Loops(function)
    return tuple(sorted([head for head in loops.labels if is_unturned(blocks, loops, head)]))


def turning_steps(module, function):
    """The steps by which no loop of a function stays unturned."""
    heads = unturned_heads(function)
    steps = []
    less = dropped(function) if len(heads) > 0 else None
    if less is not None:
        steps.append(("drop", function[0]))
        function = less
    while len(heads) > 0:
        function, more = carry_steps(module, function, heads[0])
        ways = Loops(function).inner_ways(heads[0])
        steps.extend(more + [("twin", function[0], heads[0], ways)])
        function = twinned(function, blocks_by_label(function)[heads[0]], ways)
        heads = unturned_heads(function)
    return steps


def pass_turn(module):
    """Some paper that leads a module to one without unturned loops."""
    return tuple([step for function in module[1] for step in turning_steps(module, function)])
