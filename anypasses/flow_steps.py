"""Steps on blocks and on the ways between them ([35] to [38])."""

from anypasses.blockparams import carried, param_dropped
from anypasses.editing import ways_by_label, with_function
from anypasses.fewerblocks import bent, dropped, joined, picked
from anypasses.kinds import are_ascending, is_number, is_pair
from anypasses.moreblocks import landed, twinned
from anypasses.parts import types_by_value
from anypasses.shapes import end_targets
from anypasses.stepforms import want, want_form, want_function, want_index, want_label

FLOW_WORDS = ("bend", "carry", "drop", "join", "land", "param_out", "pick", "twin")
FLOW_FORMS = (
    ("bend", 4), ("carry", 4), ("drop", 2), ("join", 3), ("land", 4), ("param_out", 4), ("pick", 3), ("twin", 4),
)


def want_ways(function, label, value, at):
    """Wants any value to be a tuple, not empty and ascending, of ways into a block."""
    want(isinstance(value, tuple) and len(value) > 0 and all([is_pair(way) for way in value]), at)
    want(all([is_number(number) for way in value for number in way]), at)
    ways = ways_by_label(function)[label]
    want(are_ascending(value) and all([way in ways for way in value]), at)


def want_labels(function, value, at):
    """Wants any value to be a tuple, not empty and ascending, of labels."""
    want(isinstance(value, tuple) and len(value) > 0 and all([is_number(label) for label in value]), at)
    known = {block[0]: True for block in function[3]}
    want(are_ascending(value) and all([label in known for label in value]), at)


def behind_carry(module, function, step):
    _, _, labels, value = step
    want_labels(function, labels, 2)
    kinds = types_by_value(module, function)
    want(is_number(value) and value in kinds, 3)
    return carried(function, labels, value, kinds[value])


def behind_ways(function, block, step):
    """The function behind a step that leads ways to a new block."""
    want_ways(function, block[0], step[3], 3)
    return landed(function, block, step[3]) if step[0] == "land" else twinned(function, block, step[3])


def behind_index(function, block, step):
    """The function behind a step that tells an index in a block."""
    if step[0] == "bend":
        want_index(step[3], len(end_targets(block[3])), 3)
        return bent(function, block, step[3])
    want_index(step[3], len(block[1]), 3)
    return param_dropped(function, block, step[3])


def behind(module, function, step):
    """The function behind a step, or None if its condition does not hold."""
    word = step[0]
    if word == "drop":
        return dropped(function)
    if word == "carry":
        return behind_carry(module, function, step)
    block = function[3][want_label(function, step[2], 2)]
    if word == "pick":
        return picked(function, block)
    if word == "join":
        return joined(function, block)
    if word in ("land", "twin"):
        return behind_ways(function, block, step)
    return behind_index(function, block, step)


def apply_flow(module, step):
    """The module behind any value, a step on blocks."""
    want_form(step, FLOW_FORMS)
    function = want_function(module, step[1])
    changed = behind(module, function, step)
    want(changed is not None, len(step))
    return with_function(module, changed)
