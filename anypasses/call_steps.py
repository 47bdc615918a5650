"""Steps on calls and on whole functions ([43] to [46])."""

from anypasses.callees import is_alike, quiet_fuel, with_calls_turned
from anypasses.calling import called_names
from anypasses.editing import function_named, used_values, with_block, with_function, with_functions
from anypasses.forms import is_operand
from anypasses.inlining import inlined, is_room_for, tail_looped
from anypasses.kinds import are_ascending
from anypasses.shapes import end_operands
from anypasses.signatures import with_constant, with_known_result, without_param, without_result
from anypasses.stepforms import is_among, want, want_form, want_function, want_index, want_label

CALL_WORDS = (
    "call_out", "constant_arg", "functions_out", "globals_out", "inline", "merge", "param_drop", "result_drop",
    "result_known", "tail_loop",
)
CALL_FORMS = (
    ("call_out", 4), ("constant_arg", 4), ("functions_out", 2), ("globals_out", 2), ("inline", 4), ("merge", 2),
    ("param_drop", 3), ("result_drop", 2), ("result_known", 3), ("tail_loop", 2),
)


def is_constant_of(module, operand, kind):
    """Whether any value is a number that fits a type, or a global for a pointer."""
    if not is_operand(operand):
        return False
    word, thing = operand
    if kind == "ptr":
        return word == "g" and thing in [place[0] for place in module[0]]
    return word == "n" and thing < 1 << kind


def want_call(function, step):
    """The index of the block, and the call there, that a step tells."""
    at = want_label(function, step[2], 2)
    ops = function[3][at][2]
    want_index(step[3], len(ops), 3)
    want(ops[step[3]][1] == "call", 3)
    return at, ops[step[3]]


def behind_inline(module, function, step):
    at, op = want_call(function, step)
    callee = function_named(module, op[2][0])
    want(is_room_for(function, callee), 3)
    return with_function(module, inlined(function, callee, at, step[3]))


def behind_call_out(module, function, step):
    at, op = want_call(function, step)
    want(op[2][0] in dict(quiet_fuel(module)) and op[0] not in used_values(function), 3)
    label, params, ops, end = function[3][at]
    return with_function(module, with_block(function, (label, params, ops[:step[3]] + ops[step[3] + 1:], end)))


def behind_constant_arg(module, function, step):
    at, operand = step[2], step[3]
    want_index(at, len(function[1]), 2)
    want(is_constant_of(module, operand, function[1][at]), 3)
    return with_constant(module, function, at, operand)


def behind_result_known(module, function, step):
    operand = step[2]
    _, params, result, _ = function
    want(result is not None, 1)
    want(is_operand(operand), 2)
    if operand[0] == "v":
        want(operand[1] < len(params) and params[operand[1]] == result, 2)
    else:
        want(is_constant_of(module, operand, result), 2)
    return with_known_result(module, function, operand)


def behind_tail_loop(module, function):
    looped = tail_looped(function)
    return None if looped is None else with_function(module, looped)


def are_names_among(value, names):
    """Whether any value is an ascending tuple, not empty, of these names."""
    if not isinstance(value, tuple) or len(value) == 0 or not all([is_among(name, names) for name in value]):
        return False
    return are_ascending(value)


def behind_functions_out(module, names):
    known = {function[0]: True for function in module[1] if function[0] != "main"}
    want(are_names_among(names, known), 1)
    kept = [function for function in module[1] if function[0] not in names]
    want(all([name not in names for function in kept for name in called_names(function)]), 1)
    return (module[0], tuple(kept))


def global_operands(function):
    """The names of the globals that are operands in a function, as keys of a dict."""
    rows = [op[3] for block in function[3] for op in block[2]]
    rows.extend([end_operands(block[3]) for block in function[3]])
    return {operand[1]: True for row in rows for operand in row if operand[0] == "g"}


def behind_globals_out(module, names):
    known = {place[0]: True for place in module[0]}
    want(are_names_among(names, known), 1)
    want(all([name not in names for function in module[1] for name in global_operands(function)]), 1)
    return (tuple([place for place in module[0] if place[0] not in names]), module[1])


def behind_merge(module, pairs):
    want(is_alike(module, pairs), 1)
    turned = dict(pairs)
    return with_functions(module, lambda function: with_calls_turned(function, turned))


def behind_signature(module, function, step):
    """The module behind a step on the params or the result of a function, or None if its condition does not hold."""
    if step[0] == "param_drop":
        want_index(step[2], len(function[1]), 2)
        return without_param(module, function, step[2])
    if step[0] == "constant_arg":
        return behind_constant_arg(module, function, step)
    if step[0] == "result_drop":
        return without_result(module, function)
    return behind_result_known(module, function, step)


def behind(module, step):
    """The module behind a step, or None if a condition on all that it tells does not hold."""
    word = step[0]
    if word == "functions_out":
        return behind_functions_out(module, step[1])
    if word == "globals_out":
        return behind_globals_out(module, step[1])
    if word == "merge":
        return behind_merge(module, step[1])
    function = want_function(module, step[1])
    if word == "inline":
        return behind_inline(module, function, step)
    if word == "tail_loop":
        return behind_tail_loop(module, function)
    if word == "call_out":
        return behind_call_out(module, function, step)
    return behind_signature(module, function, step)


def apply_call(module, step):
    """The module behind any value, a step on calls."""
    want_form(step, CALL_FORMS)
    changed = behind(module, step)
    want(changed is not None, len(step) - 1)
    return changed
