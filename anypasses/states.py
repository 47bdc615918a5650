"""States of a run ([17])."""

from anypasses.kinds import is_number, is_sequence


def is_inputs(value):
    """Whether any value is a sequence of numbers."""
    return is_sequence(value) and all([is_number(number) for number in value])
