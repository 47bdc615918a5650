"""Ways through a function ([22])."""

from anypasses.errors import InvalidQuestion
from anypasses.kinds import is_number
from anypasses.shapes import block_values, end_targets
from anypasses.ways import reached_from, short_way


def end_labels(end):
    """The labels of an end's targets, in its order."""
    return tuple([label for label, _ in end_targets(end)])


def web_of(function):
    """For each label of a function the labels of its block's targets."""
    return {block[0]: end_labels(block[3]) for block in function[3]}


def entry_of(function):
    """The label of a function's first block."""
    return function[3][0][0]


def is_label(function, value):
    """Whether any value is a label of a function."""
    return is_number(value) and value in [block[0] for block in function[3]]


def check_label(function, value, at):
    """Refuses any value, the argument with this number, if it is no label of the function."""
    if not is_label(function, value):
        raise InvalidQuestion(at)


def block_at(function, label):
    """The block with a label."""
    check_label(function, label, 0)
    found = [block for block in function[3] if block[0] == label]
    return found[0]


def sources_of(function, label):
    """The labels of all blocks that have a label as a target."""
    check_label(function, label, 0)
    web = web_of(function)
    return tuple([other for other in sorted(web) if label in web[other]])


def reached_labels(function):
    """The labels to which ways lead from the entry."""
    return tuple(sorted(reached_from(web_of(function), entry_of(function))))


def way_to(function, label):
    """Some way from the entry to a label, as short as any, or None."""
    check_label(function, label, 0)
    return short_way(web_of(function), entry_of(function), label)


def home_of(function, value):
    """The label and the index where a value is made, -1 for a parameter; None if it is made nowhere."""
    if value < len(function[1]):
        return (entry_of(function), -1)
    for block in function[3]:
        made = block_values(block)
        if value in made:
            return (block[0], max(made.index(value) - len(block[1]), -1))
    return None
