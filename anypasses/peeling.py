"""The first round of a loop, taken out of it ([68])."""

from anypasses.callees import ordered_labels
from anypasses.carrying import carry_steps
from anypasses.editing import free_label, function_named, ways_by_label
from anypasses.errors import InvalidQuestion, Refused
from anypasses.fewerblocks import dropped
from anypasses.landing import check_head
from anypasses.looping import Loops
from anypasses.moreblocks import twinned
from anypasses.stepforms import is_among
from anypasses.webs import block_at, end_labels


def inner_order(function, labels, head):
    """The labels of a loop but its head, each ahead of those to which it leads; None if the loop is not plain."""
    web = {}
    for label in labels:
        if label != head:
            others = end_labels(block_at(function, label)[3])
            web[label] = [other for other in others if other in labels and other != head]
    return ordered_labels(web)


def is_plain(function, head):
    """Whether the loop of any value, a head, has no round within it but those through its head."""
    loops = Loops(function)
    check_head(loops, head, 0)
    return inner_order(function, loops.labels[head], head) is not None


def twin_steps(function, head, order):
    """The steps that copy the blocks of a loop for the first round, the head first."""
    steps = []
    copies = {}
    ways = Loops(function).outer_ways(head)
    for label in [head] + order:
        if label != head:
            ways = tuple([way for way in ways_by_label(function)[label] if way[0] in copies])
        copies[free_label(function)] = True
        steps.append(("twin", function[0], label, ways))
        function = twinned(function, block_at(function, label), ways)
    return steps


def peel_paper(module, name, head):
    """Some paper that takes the first round out of the loop of a head of a function, both any values."""
    if not is_among(name, [function[0] for function in module[1]]):
        raise InvalidQuestion(1)
    function = function_named(module, name)
    loops = Loops(function)
    check_head(loops, head, 2)
    order = inner_order(function, loops.labels[head], head)
    if order is None:
        raise Refused(2)
    less = dropped(function)
    steps = [] if less is None else [("drop", name)]
    function = function if less is None else less
    for label in loops.labels[head]:
        function, more = carry_steps(module, function, label)
        steps.extend(more)
    return tuple(steps + twin_steps(function, head, order))
