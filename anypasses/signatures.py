"""Params and results that functions have no more ([44]).

Each of these tells the module behind a step, or None if the condition of the step does not hold."""

from anypasses.calling import calls_in, is_call_of, returned_operands, values_of_calls
from anypasses.editing import used_counts, with_end, with_functions, with_ops, without_places
from anypasses.swapping import swapped_function


def uses_as_arg(function, at):
    """How often the param with this index is used as just this arg of calls of its own function."""
    return len([op for op in calls_in(function, function[0]) if op[3][at] == ("v", at)])


def without_param(module, function, at):
    """The module in which a function lacks a param that it hands to itself at most."""
    if used_counts(function).get(at, 0) != uses_as_arg(function, at):
        return None
    name, params, result, _ = function

    def shorter(op):
        return (op[0], op[1], op[2], without_places(op[3], (at,))) if is_call_of(op, name) else op

    def change(other):
        less = with_ops(other, shorter)
        if other[0] != name:
            return less
        moved = swapped_function(less, {k: ("v", k - 1) for k in range(at + 1, len(params))})
        return (name, without_places(params, (at,)), result, moved[3])

    return with_functions(module, change)


def with_constant(module, function, at, operand):
    """The module in which a function has an operand, with which all call it, instead of a param."""
    for other in module[1]:
        for op in calls_in(other, function[0]):
            own = other[0] == function[0] and op[3][at] == ("v", at)
            if op[3][at] != operand and not own:
                return None
    changed = swapped_function(function, {at: operand})
    return with_functions(module, lambda other: changed if other[0] == function[0] else other)


def is_result_wanted(module, function):
    """Whether the value of a call of a function is used otherwise than in returns of this function."""
    for other in module[1]:
        counts = used_counts(other)
        returned = returned_operands(other) if other[0] == function[0] else []
        for value in values_of_calls(other, function[0]):
            if counts.get(value, 0) != len([operand for operand in returned if operand == ("v", value)]):
                return True
    return False


def without_result(module, function):
    """The module in which a function tells nothing to its callers."""
    name, params, result, blocks = function
    if name == "main" or result is None or is_result_wanted(module, function):
        return None
    silent = []
    for block in blocks:
        silent.append(with_end(block, ("return", None)) if block[3][0] == "return" else block)

    def change(other):
        whole = (name, params, None, tuple(silent)) if other[0] == name else other
        return with_ops(whole, lambda op: (None, op[1], op[2], op[3]) if is_call_of(op, name) else op)

    return with_functions(module, change)


def told_by_call(op, operand):
    """What a call tells if its function returns this number, or this param of it."""
    return op[3][operand[1]] if operand[0] == "v" else operand


def is_always_returned(function, operand):
    """Whether each return of a function returns an operand, or the value of a call of itself that tells it."""
    calls = values_of_calls(function, function[0])
    for returned in returned_operands(function):
        own = returned[0] == "v" and returned[1] in calls and told_by_call(calls[returned[1]], operand) == operand
        if returned != operand and not own:
            return False
    return True


def with_known_result(module, function, operand):
    """The module in which all know what a function returns: a number, or a param of it."""
    if not is_always_returned(function, operand):
        return None

    def change(other):
        calls = values_of_calls(other, function[0])
        return swapped_function(other, {value: told_by_call(calls[value], operand) for value in calls})

    return with_functions(module, change)
