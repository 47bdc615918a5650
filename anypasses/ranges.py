"""Ranges of numbers, and what operations and comparisons tell of them ([28]).

A range is a pair (low, high), both of them among its numbers."""

from anypasses.numbers import bin_told, wrapped


def full(width):
    """The range of all numbers of a width."""
    return (0, (1 << width) - 1)


def hull(one, other):
    """The least range with both."""
    return (min(one[0], other[0]), max(one[1], other[1]))


def is_single(one):
    return one[0] == one[1]


def wrapped_range(low, high, width):
    """The range of two integers if wrapping takes the same from both, otherwise all."""
    if low >> width != high >> width:
        return full(width)
    return (wrapped(low, width), wrapped(high, width))


def add_range(width, one, other):
    return wrapped_range(one[0] + other[0], one[1] + other[1], width)


def sub_range(width, one, other):
    return wrapped_range(one[0] - other[1], one[1] - other[0], width)


def mul_range(width, one, other):
    if one[1] * other[1] >= 1 << width:
        return full(width)
    return (one[0] * other[0], one[1] * other[1])


def udiv_range(_, one, other):
    return (one[0] // max(other[1], 1), one[1] // max(other[0], 1))


def urem_range(_, one, other):
    if one[1] < other[0]:
        return one
    return (0, min(one[1], max(other[1], 1) - 1))


def and_range(_, one, other):
    return (0, min(one[1], other[1]))


def lshr_range(_, one, other):
    return (0, one[1])


RANGE_ACTIONS = {
    "add": add_range, "sub": sub_range, "mul": mul_range, "udiv": udiv_range, "urem": urem_range, "and": and_range,
    "lshr": lshr_range,
}


def bin_range(op, width, one, other):
    """A range with all that an operation tells of numbers of two ranges."""
    if is_single(one) and is_single(other):
        told = bin_told(op, width, one[0], other[0])
        if told is not None:
            return (told, told)
    if op not in RANGE_ACTIONS:
        return full(width)
    action = RANGE_ACTIONS[op]
    return action(width, one, other)


def is_unsigned(pred, width, one, other):
    """Whether a comparison takes the numbers of two ranges as they are: none of them reads as one below 0."""
    half = 1 << (width - 1)
    return pred not in ("slt", "sle") or (one[1] < half and other[1] < half)


def always(pred, one, other):
    """Whether a comparison without a sign holds of all two numbers of two ranges."""
    if pred == "eq":
        return is_single(one) and one == other
    if pred == "ne":
        return one[1] < other[0] or other[1] < one[0]
    if pred in ("ult", "slt"):
        return one[1] < other[0]
    return one[1] <= other[0]


def never(pred, one, other):
    """Whether a comparison without a sign holds of no two numbers of two ranges."""
    if pred == "eq":
        return always("ne", one, other)
    if pred == "ne":
        return always("eq", one, other)
    if pred in ("ult", "slt"):
        return other[1] <= one[0]
    return other[1] < one[0]


def cmp_range(pred, width, one, other):
    """A range with all that a comparison tells of numbers of two ranges."""
    if not is_unsigned(pred, width, one, other):
        return (0, 1)
    if always(pred, one, other):
        return (1, 1)
    return (0, 0) if never(pred, one, other) else (0, 1)


def narrowed_unlike(one, other):
    """A range without the number of the other one, if this is a single one."""
    if not is_single(other):
        return one
    low, high = one
    if low == other[0]:
        return (low + 1, high)
    return (low, high - 1) if high == other[0] else one


def narrowed(pred, width, one, other):
    """The least ranges with all two numbers of two ranges of which a comparison holds; None if there are none."""
    if not is_unsigned(pred, width, one, other):
        return (one, other)
    if never(pred, one, other):
        return None
    if pred == "eq":
        both = (max(one[0], other[0]), min(one[1], other[1]))
        return (both, both)
    if pred == "ne":
        return (narrowed_unlike(one, other), narrowed_unlike(other, one))
    gap = 1 if pred in ("ult", "slt") else 0
    return ((one[0], min(one[1], other[1] - gap)), (max(other[0], one[0] + gap), other[1]))
