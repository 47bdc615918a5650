"""What the flow steps do that make new blocks, and lead ways to them ([37]).

Each of these tells the function behind a step, or None if the condition of the step does not hold."""

from anypasses.editing import free_label, free_value, is_wanted_elsewhere, retargeted, with_blocks
from anypasses.shapes import block_values
from anypasses.swapping import swapped_block


def led_to(function, ways, block):
    """The function with a new block behind all others, to which some ways lead instead."""
    there = {way: True for way in ways}

    def change(label, at, target):
        return (block[0], target[1]) if (label, at) in there else target

    return with_blocks(function, retargeted(function, change)[3] + (block,))


def landed(function, block, ways):
    label, params, _, _ = block
    first = free_value(function)
    news = [(first + at, kind) for at, (_, kind) in enumerate(params)]
    end = ("jump", (label, tuple([("v", value) for value, _ in news])))
    return led_to(function, ways, (free_label(function), tuple(news), (), end))


def with_values(block, label, news):
    """The block with another label, and new values, told by a dict, where it makes its own ones."""
    _, params, ops, end = block
    new_params = tuple([(news[value], kind) for value, kind in params])
    new_ops = []
    for value, kind, info, args in ops:
        new_ops.append((None if value is None else news[value], kind, info, args))
    return (label, new_params, tuple(new_ops), end)


def copied_block(block, label, first):
    """A copy of a block with another label and with values from the first new one on."""
    made = [value for value in block_values(block) if value is not None]
    news = {value: first + at for at, value in enumerate(made)}
    copy = swapped_block(block, {value: ("v", news[value]) for value in made})
    return with_values(copy, label, news)


def twinned(function, block, ways):
    if is_wanted_elsewhere(function, block):
        return None
    return led_to(function, ways, copied_block(block, free_label(function), free_value(function)))
