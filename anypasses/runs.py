"""Runs, and which of them may be cuts of one another ([7], [8])."""

from anypasses.kinds import is_number, is_pair

TRAPS = ("divide", "index", "input", "stop")


def is_end(value):
    """Whether any value tells how a run ended, or, by None, that it was cut."""
    if value is None:
        return True
    if not is_pair(value):
        return False
    word, told = value
    if word == "value":
        return is_number(told)
    return word == "trap" and told in TRAPS


def is_run(value):
    """Whether any value is a run."""
    if not is_pair(value):
        return False
    outputs, end = value
    return isinstance(outputs, tuple) and all([is_number(number) for number in outputs]) and is_end(end)


def is_beginning(one, other):
    """Whether the first run may be a cut of the second one."""
    if one == other:
        return True
    outputs, end = one
    return end is None and other[0][:len(outputs)] == outputs


def agree_so_far(one, other):
    """Whether one of two runs may be a cut of the other one."""
    return is_beginning(one, other) or is_beginning(other, one)
