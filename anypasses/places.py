"""Places: what a pointer operand points to, as far as it can be told ([39])."""

from anypasses.pointers import Pointers, global_sizes


def place_of(function, operand, width):
    """The place of a pointer operand: the triple (root, offset, width)."""
    return Pointers(function).spot(operand, width)


def base_of(function, operand):
    """What is behind all `at`s of a pointer operand."""
    return Pointers(function).ground(operand)


def is_private(function, value):
    """Whether a value is made by an alloca the cells of which nothing but its own loads and stores reach."""
    return value in Pointers(function).privates


def are_apart(function, one, other):
    """Whether two places are surely no common cell."""
    return Pointers(function).are_apart(one, other)


def is_inside(module, function, place):
    """Whether a place is a cell of a global, or of an alloca's object."""
    return Pointers(function).is_inside(global_sizes(module), place)
