"""The forms of modules and of all that they are put together of ([9])."""

from anypasses.kinds import are_ascending, is_number, is_pair
from anypasses.numbers import CASTS, OPS, PREDS, is_of_width, is_width

BOUND = 2 ** 64
FIGURES = "0123456789"
WORD_SIGNS = "abcdefghijklmnopqrstuvwxyzABCDEFGHIJKLMNOPQRSTUVWXYZ_0123456789"
ARG_COUNTS = {
    "bin": 2, "cmp": 2, "select": 3, "cast": 1, "alloca": 0, "at": 2, "load": 1, "input": 0, "store": 2, "print": 1,
}
VALUELESS = ("store", "print")


def is_name(value):
    """Whether any value is a name."""
    if not isinstance(value, str) or value == "" or value[0] in FIGURES:
        return False
    return all([sign in WORD_SIGNS for sign in value])


def is_small(value):
    """Whether any value is a number that a module may have: also a value, and a label, is one."""
    return is_number(value) and value < BOUND


def is_type(value):
    """Whether any value is a type."""
    return is_width(value) or value == "ptr"


def is_result(value):
    """Whether any value is a result: a width or None."""
    return value is None or is_width(value)


def is_operand(value):
    """Whether any value is an operand."""
    if not is_pair(value):
        return False
    word, thing = value
    if word == "g":
        return is_name(thing)
    return word in ("v", "n") and is_small(thing)


def are_operands(value):
    """Whether any value is a tuple of operands."""
    return isinstance(value, tuple) and all([is_operand(arg) for arg in value])


def is_target(value):
    """Whether any value is a target."""
    return is_pair(value) and is_small(value[0]) and are_operands(value[1])


def is_pair_info(kind, info):
    """Whether any value is the info of two entries of an op of such a kind."""
    if not is_pair(info):
        return False
    first, second = info
    if kind == "bin":
        return first in OPS and is_width(second)
    if kind == "cmp":
        return first in PREDS and is_width(second)
    return is_width(first) and is_small(second)


def is_cast_info(info):
    """Whether any value is the info of a cast."""
    if not isinstance(info, tuple) or len(info) != 3:
        return False
    return info[0] in CASTS and is_width(info[1]) and is_width(info[2])


def is_info(kind, info):
    """Whether any value is the info of an op of this kind, a string."""
    if kind in ("bin", "cmp", "alloca"):
        return is_pair_info(kind, info)
    if kind == "cast":
        return is_cast_info(info)
    if not isinstance(info, tuple) or len(info) != 1:
        return False
    if kind == "call":
        return is_name(info[0])
    if kind == "select":
        return is_type(info[0])
    return is_width(info[0])


def is_op_value(kind, value):
    """Whether an op of this kind, a string, may give any value this value, or None."""
    if kind == "call":
        return value is None or is_small(value)
    if kind in VALUELESS:
        return value is None
    return is_small(value)


def is_op(value):
    """Whether any value is an op."""
    if not isinstance(value, tuple) or len(value) != 4:
        return False
    told, kind, info, args = value
    if not isinstance(kind, str) or not (kind == "call" or kind in ARG_COUNTS):
        return False
    if not is_op_value(kind, told) or not is_info(kind, info) or not are_operands(args):
        return False
    return kind == "call" or len(args) == ARG_COUNTS[kind]


def is_ending(value):
    """Whether any value is an ending."""
    if not isinstance(value, tuple) or len(value) == 0:
        return False
    word = value[0]
    if word == "jump":
        return len(value) == 2 and is_target(value[1])
    if word == "branch":
        return len(value) == 4 and is_operand(value[1]) and is_target(value[2]) and is_target(value[3])
    if word == "return":
        return len(value) == 2 and (value[1] is None or is_operand(value[1]))
    return word == "stop" and len(value) == 1


def is_param(value):
    """Whether any value is a param of a block."""
    return is_pair(value) and is_small(value[0]) and is_type(value[1])


def is_block(value):
    """Whether any value is a block."""
    if not isinstance(value, tuple) or len(value) != 4:
        return False
    label, params, ops, end = value
    if not is_small(label) or not isinstance(params, tuple) or not isinstance(ops, tuple):
        return False
    return all([is_param(param) for param in params]) and all([is_op(op) for op in ops]) and is_ending(end)


def is_function(value):
    """Whether any value is a function."""
    if not isinstance(value, tuple) or len(value) != 4:
        return False
    name, params, result, blocks = value
    if not is_name(name) or not is_result(result):
        return False
    if not isinstance(params, tuple) or not all([is_type(param) for param in params]):
        return False
    return isinstance(blocks, tuple) and len(blocks) > 0 and all([is_block(block) for block in blocks])


def is_global(value):
    """Whether any value is a global."""
    if not isinstance(value, tuple) or len(value) != 4:
        return False
    name, width, size, cells = value
    if not is_name(name) or not is_width(width) or not is_small(size) or not isinstance(cells, tuple):
        return False
    return len(cells) == size and all([is_of_width(cell, width) for cell in cells])


def is_module(value):
    """Whether any value is a module."""
    if not is_pair(value):
        return False
    places, functions = value
    if not isinstance(places, tuple) or not all([is_global(place) for place in places]):
        return False
    if not isinstance(functions, tuple) or not all([is_function(function) for function in functions]):
        return False
    place_names = [place[0] for place in places]
    names = [function[0] for function in functions]
    if not are_ascending(place_names) or not are_ascending(names):
        return False
    return len(set(place_names + names)) == len(place_names) + len(names)
