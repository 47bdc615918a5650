"""Numbers of a width, and what is told of them ([5], [6])."""

from anypasses.kinds import is_number

WIDTHS = (1, 8, 16, 32, 64)
OPS = ("add", "sub", "mul", "udiv", "sdiv", "urem", "srem", "and", "or", "xor", "shl", "lshr", "ashr")
PREDS = ("eq", "ne", "ult", "ule", "slt", "sle")
CASTS = ("zext", "sext", "trunc")


def is_width(value):
    """Whether any value is a width."""
    return is_number(value) and value in WIDTHS


def is_of_width(value, width):
    """Whether any value is a number of the width."""
    return is_number(value) and is_width(width) and value < 1 << width


def wrapped(number, width):
    """The number of the width that leaves the same as this integer when divided by 2 ** width."""
    return number % (1 << width)


def signed(number, width):
    """The number of the width, read with a sign."""
    return number if number < 1 << (width - 1) else number - (1 << width)


def told_add(width, one, other):
    return wrapped(one + other, width)


def told_sub(width, one, other):
    return wrapped(one - other, width)


def told_mul(width, one, other):
    return wrapped(one * other, width)


def told_udiv(_, one, other):
    return None if other == 0 else one // other


def told_urem(_, one, other):
    return None if other == 0 else one % other


def quotient(one, other):
    """The quotient of two integers without its fraction; Python's own // goes downwards instead."""
    size = abs(one) // abs(other)
    return size if (one < 0) == (other < 0) else -size


def told_sdiv(width, one, other):
    if other == 0:
        return None
    return wrapped(quotient(signed(one, width), signed(other, width)), width)


def told_srem(width, one, other):
    if other == 0:
        return None
    first = signed(one, width)
    second = signed(other, width)
    return wrapped(first - second * quotient(first, second), width)


def told_and(_, one, other):
    return one & other


def told_or(_, one, other):
    return one | other


def told_xor(_, one, other):
    return one ^ other


def told_shl(width, one, other):
    return wrapped(one << (other % width), width)


def told_lshr(width, one, other):
    return one >> (other % width)


def told_ashr(width, one, other):
    return wrapped(signed(one, width) >> (other % width), width)


BIN_ACTIONS = {
    "add": told_add, "sub": told_sub, "mul": told_mul,
    "udiv": told_udiv, "sdiv": told_sdiv, "urem": told_urem, "srem": told_srem,
    "and": told_and, "or": told_or, "xor": told_xor,
    "shl": told_shl, "lshr": told_lshr, "ashr": told_ashr,
}


def bin_told(op, width, one, other):
    """What an operation tells of two numbers of the width; None if it divides by 0."""
    action = BIN_ACTIONS[op]
    return action(width, one, other)


def is_so(pred, width, one, other):
    """Whether a comparison of two numbers of the width holds."""
    if pred == "eq":
        return one == other
    if pred == "ne":
        return one != other
    if pred == "ult":
        return one < other
    if pred == "ule":
        return one <= other
    if pred == "slt":
        return signed(one, width) < signed(other, width)
    return signed(one, width) <= signed(other, width)


def cmp_told(pred, width, one, other):
    """1 if a comparison of two numbers of the width holds, otherwise 0."""
    return 1 if is_so(pred, width, one, other) else 0


def cast_told(kind, width, to, number):
    """What a cast makes of a number of the width: a number of the width `to`."""
    if kind == "sext":
        return wrapped(signed(number, width), to)
    return wrapped(number, to)
