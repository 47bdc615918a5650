"""What the entries of any step are asked first: its form, the names, labels and indices in it.

Each of these raises InvalidStep with the index of the entry that does not fit."""

from anypasses.errors import InvalidStep
from anypasses.kinds import is_number


def want(held, at):
    """Refuses the entry with this index unless what was asked of it held."""
    if not held:
        raise InvalidStep(at)


def want_form(step, forms):
    """Wants any value to be a tuple that begins with one of the words of `forms`, pairs of a word and a length."""
    want(isinstance(step, tuple) and len(step) > 0 and isinstance(step[0], str), 0)
    want((step[0], len(step)) in forms, 0)


def is_among(value, names):
    """Whether any value is one of these names."""
    return isinstance(value, str) and value in names


def want_function(module, value):
    """The function of this name, the entry 1 of a step."""
    want(isinstance(value, str), 1)
    found = [function for function in module[1] if function[0] == value]
    want(len(found) == 1, 1)
    return found[0]


def want_label(function, value, at):
    """The index of the block with this label."""
    want(is_number(value), at)
    found = [place for place, block in enumerate(function[3]) if block[0] == value]
    want(len(found) == 1, at)
    return found[0]


def want_index(value, count, at):
    """Wants any value to be a number below this count."""
    want(is_number(value) and value < count, at)
