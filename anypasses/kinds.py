"""The plain kinds of values of which everything is put together ([1])."""


def is_number(value):
    """Whether any value is an integer from 0 on; True and False are none."""
    return isinstance(value, int) and not isinstance(value, bool) and value >= 0


def is_sequence(value):
    """Whether any value is a list or a tuple."""
    return isinstance(value, (list, tuple))


def is_pair(value):
    """Whether any value is a tuple of two things."""
    return isinstance(value, tuple) and len(value) == 2


def are_ascending(things):
    """Whether each of these is less than the next one."""
    return all([one < other for one, other in zip(things, things[1:])])
