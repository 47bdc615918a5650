"""Calls of functions, looked at in whole modules ([43] to [45])."""


def is_call_of(op, name):
    return op[1] == "call" and op[2] == (name,)


def called_names(function):
    """The names of the functions that a function calls, as keys of a dict."""
    return {op[2][0]: True for block in function[3] for op in block[2] if op[1] == "call"}


def calls_in(function, name):
    """The calls of a function of this name that stand in a function."""
    return [op for block in function[3] for op in block[2] if is_call_of(op, name)]


def values_of_calls(function, name):
    """The values of the calls of a function of this name that stand in a function, each with its call."""
    return {op[0]: op for op in calls_in(function, name) if op[0] is not None}


def returned_operands(function):
    """The operands, or None, of all returns of a function."""
    return [block[3][1] for block in function[3] if block[3][0] == "return"]
