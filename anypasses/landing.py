"""Blocks by which alone loops are entered ([66])."""

from anypasses.editing import blocks_by_label
from anypasses.errors import InvalidQuestion
from anypasses.kinds import is_number
from anypasses.looping import Loops


def check_head(loops, value, at):
    """Refuses any value, the argument with this number, if it is no head of a loop."""
    if not is_number(value) or value not in loops.labels:
        raise InvalidQuestion(at)


def landing_of(blocks, loops, head):
    """The label of the landing block of a head, or None."""
    outer = loops.outer_ways(head)
    if len(outer) != 1 or blocks[outer[0][0]][3][0] != "jump":
        return None
    return outer[0][0]


def landing_block(function, head):
    """The label of the landing block of any value, a head; None if it has none."""
    loops = Loops(function)
    check_head(loops, head, 0)
    return landing_of(blocks_by_label(function), loops, head)


def landing_steps(function):
    """A step for each head of a function without a landing block; none of them changes what another one tells."""
    loops = Loops(function)
    blocks = blocks_by_label(function)
    lacking = [head for head in loops.labels if landing_of(blocks, loops, head) is None]
    return [("land", function[0], head, loops.outer_ways(head)) for head in lacking]


def has_landings(module):
    """Whether each head of each function of a module has a landing block."""
    return all([len(landing_steps(function)) == 0 for function in module[1]])


def pass_landings(module):
    """Some paper that leads a module to one with a landing block for each head."""
    return tuple([step for function in module[1] for step in landing_steps(function)])
