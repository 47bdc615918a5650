"""Values handed on from block to block, so that no other block uses what a block makes ([38])."""

from anypasses.blockparams import carried
from anypasses.editing import used_in, ways_by_label
from anypasses.parts import types_by_value
from anypasses.shapes import block_values
from anypasses.webs import block_at


def live_labels(users, ways, home):
    """The labels other than its own at the starts of whose blocks a value is live, `users` having those that use it."""
    found = {label: True for label in users if label != home}
    waiting = list(found)
    while len(waiting) > 0:
        for source, _ in ways[waiting.pop()]:
            if source != home and source not in found:
                found[source] = True
                waiting.append(source)
    return tuple(sorted(found))


def carry_steps(module, function, label):
    """The function in which no other block uses what the block with a label makes, and the steps that lead to it.

    All blocks are reached. A value is handed on only to where it is live: so each block to which it comes has it from
    such a block, or from its own."""
    kinds = types_by_value(module, function)
    steps = []
    for value in block_values(block_at(function, label)):
        users = [block[0] for block in function[3] if block[0] != label and value in used_in(block)]
        if value is not None and len(users) > 0:
            labels = live_labels(users, ways_by_label(function), label)
            steps.append(("carry", function[0], labels, value))
            function = carried(function, labels, value, kinds[value])
    return function, steps
