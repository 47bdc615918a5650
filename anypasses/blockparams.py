"""What the flow steps do to the params of blocks ([38]).

Each of these tells the function behind a step, or None if the condition of the step does not hold."""

from anypasses.dominating import Dominators
from anypasses.editing import free_value, homes_of, retargeted, with_blocks, without_places
from anypasses.shapes import end_targets
from anypasses.standing import Standing
from anypasses.swapping import swapped_block


def is_carried(function, known, labels, value):
    """Whether a value can be carried into these blocks; of the function the dominators are known."""
    entry = function[3][0][0]
    home = homes_of(function).get(value, (entry, -1))[0]
    standing = Standing(function)
    starts = {block[0]: standing.starts[at] for at, block in enumerate(function[3])}
    for label in labels:
        if label not in known.web or label in (entry, home) or starts[label] & standing.bits[value] == 0:
            return False
    return True


def nearest(known, labels, label):
    """The one of these labels that dominates a reached label, and that all the others which do so dominate; or None."""
    above = [other for other in labels if known.is_above(other, label)]
    wanted = sum([known.bits[other] for other in above])
    for other in above:
        if known.above[other] & wanted == wanted:
            return other
    return None


def carried(function, labels, value, kind):
    """The function in which a value of this type is handed on to these blocks as a new param of theirs."""
    known = Dominators(function)
    if not is_carried(function, known, labels, value):
        return None
    first = free_value(function)
    news = {label: first + at for at, label in enumerate(labels)}
    names = {}
    for block in function[3]:
        near = nearest(known, labels, block[0]) if block[0] in known.web else None
        names[block[0]] = ("v", value if near is None else news[near])

    def change(source, at, target):
        return (target[0], target[1] + (names[source],)) if target[0] in news else target

    renamed = with_blocks(function, [swapped_block(block, {value: names[block[0]]}) for block in function[3]])
    blocks = []
    for label, params, ops, end in retargeted(renamed, change)[3]:
        more = ((news[label], kind),) if label in news else ()
        blocks.append((label, params + more, ops, end))
    return with_blocks(function, blocks)


def uses_in_end(end, value, label, at):
    """How often an end has a value as an operand otherwise than as the arg at this index of targets with the label."""
    count = 1 if end[0] in ("branch", "return") and end[1] == ("v", value) else 0
    for other, args in end_targets(end):
        for k, arg in enumerate(args):
            if arg == ("v", value) and (other != label or k != at):
                count += 1
    return count


def is_param_needless(function, block, at):
    """Whether the param with this index is an operand at most where it is handed to the block as this param."""
    value = block[1][at][0]
    for _, _, ops, end in function[3]:
        if uses_in_end(end, value, block[0], at) > 0 or any([("v", value) in op[3] for op in ops]):
            return False
    return True


def param_dropped(function, block, at):
    if not is_param_needless(function, block, at):
        return None
    label = block[0]

    def change(source, k, target):
        return (label, without_places(target[1], (at,))) if target[0] == label else target

    blocks = []
    for other, params, ops, end in retargeted(function, change)[3]:
        blocks.append((other, without_places(params, (at,)) if other == label else params, ops, end))
    return with_blocks(function, blocks)
