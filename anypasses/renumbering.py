"""Labels and values put in the place of others ([16])."""

from anypasses.admission import admitted
from anypasses.errors import InvalidQuestion
from anypasses.kinds import is_number, is_pair
from anypasses.shapes import defined_values

NAME_BOUND = 2 ** 63


def renamed_operand(operand, values):
    return ("v", values[operand[1]]) if operand[0] == "v" else operand


def renamed_operands(operands, values):
    return tuple([renamed_operand(operand, values) for operand in operands])


def renamed_target(target, labels, values):
    return (labels[target[0]], renamed_operands(target[1], values))


def renamed_op(op, values):
    value, kind, info, args = op
    return (None if value is None else values[value], kind, info, renamed_operands(args, values))


def renamed_end(end, labels, values):
    if end[0] == "jump":
        return ("jump", renamed_target(end[1], labels, values))
    if end[0] == "branch":
        targets = [renamed_target(target, labels, values) for target in end[2:]]
        return ("branch", renamed_operand(end[1], values), targets[0], targets[1])
    if end[0] == "return" and end[1] is not None:
        return ("return", renamed_operand(end[1], values))
    return end


def renamed_block(block, labels, values):
    label, params, ops, end = block
    new_params = tuple([(values[value], kind) for value, kind in params])
    new_ops = tuple([renamed_op(op, values) for op in ops])
    return (labels[label], new_params, new_ops, renamed_end(end, labels, values))


def renamed_function(function, labels, values):
    """The function with new labels and values, each told by a dict that has all of them."""
    name, params, result, blocks = function
    return (name, params, result, tuple([renamed_block(block, labels, values) for block in blocks]))


def function_labels(function):
    """The labels of a function, in the order of its blocks."""
    return [block[0] for block in function[3]]


def renumbered_function(function):
    labels = {label: at for at, label in enumerate(function_labels(function))}
    values = {value: at for at, value in enumerate(defined_values(function))}
    return renamed_function(function, labels, values)


def renumbered(module):
    """The module, its labels and values being numbered in order."""
    admitted(module)
    return (module[0], tuple([renumbered_function(function) for function in module[1]]))


def is_naming(value, olds):
    """Whether any value has, for each of these ascending numbers, the pair of it and a new one, all new ones unlike."""
    if not isinstance(value, tuple) or not all([is_pair(pair) for pair in value]):
        return False
    if not all([is_number(old) and is_number(new) and new < NAME_BOUND for old, new in value]):
        return False
    return [old for old, _ in value] == olds and len({new for _, new in value}) == len(value)


def are_names_of(function, value):
    """Whether any value has new names for the labels and the values of a function."""
    if not is_pair(value) or not is_naming(value[0], sorted(function_labels(function))):
        return False
    if not is_naming(value[1], sorted(defined_values(function))):
        return False
    return all([old == new for old, new in value[1][:len(function[1])]])


def are_names(module, value):
    """Whether any value has new names for all functions of a module."""
    if not isinstance(value, tuple) or len(value) != len(module[1]):
        return False
    return all([are_names_of(function, names) for function, names in zip(module[1], value)])


def paired(olds, news):
    """The pairs of old and new numbers, ascending."""
    return tuple(sorted([(old, new) for old, new in zip(olds, news)]))


def renaming(one, other):
    """The names that lead from one module to the other one, or None."""
    if renumbered(one) != renumbered(other):
        return None
    names = []
    for function, goal in zip(one[1], other[1]):
        labels = paired(function_labels(function), function_labels(goal))
        names.append((labels, paired(defined_values(function), defined_values(goal))))
    return tuple(names) if are_names(one, tuple(names)) else None


def renamed(module, names):
    """The module with new names for its labels and values, told by any value."""
    admitted(module)
    if not are_names(module, names):
        raise InvalidQuestion(1)
    functions = []
    for function, (labels, values) in zip(module[1], names):
        functions.append(renamed_function(function, dict(labels), dict(values)))
    return (module[0], tuple(functions))
