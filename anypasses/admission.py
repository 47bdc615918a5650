"""Which modules are admitted, and where the others are faulty ([15])."""

from anypasses.errors import InvalidModule
from anypasses.scopes import Scope
from anypasses.shapes import end_targets

MOST_CELLS = 1000


def is_size(number):
    """Whether an object may have so many cells."""
    return 1 <= number <= MOST_CELLS


def wanted_by_op(scope, op):
    """The types that an op wants its operands to have; those of a call that is known to be one of a function."""
    kind, info = op[1], op[2]
    if kind in ("bin", "cmp"):
        return (info[1], info[1])
    if kind == "select":
        return (1, info[0], info[0])
    if kind == "at":
        return ("ptr", info[0])
    if kind == "store":
        return (info[0], "ptr")
    if kind == "cast":
        return (info[1],)
    if kind == "load":
        return ("ptr",)
    if kind == "print":
        return (info[0],)
    if kind == "call":
        return scope.signatures[info[0]][0]
    return ()


def is_info_right(scope, op):
    """Whether sizes and widths of an op are let, and a call is one of a function, with a value if there is a result."""
    value, kind, info, _ = op
    if kind == "alloca":
        return is_size(info[1])
    if kind == "cast" and info[0] == "trunc":
        return info[2] < info[1]
    if kind == "cast":
        return info[2] > info[1]
    if kind == "call":
        return info[0] in scope.signatures and (value is None) == (scope.signatures[info[0]][1] is None)
    return True


def is_op_right(scope, op):
    """Whether an op is let where its operands are looked at: its own value does not stand yet."""
    return is_info_right(scope, op) and scope.fit(op[3], wanted_by_op(scope, op))


def is_op_faulty(scope, op):
    """Whether an op is faulty; goes past it."""
    right = is_op_right(scope, op)
    again = op[0] is not None and scope.define(op[0])
    return again or not right


def is_target_right(scope, target):
    """Whether a target leads to a block other than the first one, with args that fit its params."""
    label, args = target
    if label == scope.first_label or label not in scope.block_kinds:
        return False
    return scope.fit(args, scope.block_kinds[label])


def is_end_faulty(scope, end):
    """Whether an ending is faulty."""
    if end[0] == "return":
        operands = () if end[1] is None else (end[1],)
        return not scope.fit(operands, () if scope.result is None else (scope.result,))
    if end[0] == "branch" and not scope.fits(end[1], 1):
        return True
    return not all([is_target_right(scope, target) for target in end_targets(end)])


def is_block_faulty(scope, block, is_first, is_doubled):
    """Whether a block is faulty, its ops and its ending aside; goes past its params."""
    again = [scope.define(value) for value, _ in block[1]]
    return is_doubled or (is_first and len(block[1]) > 0) or any(again)


def is_function_faulty(function):
    """Whether a function is faulty, its blocks aside."""
    name, params, result, _ = function
    return name == "main" and (len(params) > 0 or result is None)


def function_faults(module, function):
    """For each part of a function whether it is faulty."""
    scope = Scope(module, function)
    faults = [is_function_faulty(function)]
    labels = {}
    for at, block in enumerate(function[3]):
        scope.begin_block(at)
        faults.append(is_block_faulty(scope, block, at == 0, block[0] in labels))
        labels[block[0]] = True
        faults.extend([is_op_faulty(scope, op) for op in block[2]])
        faults.append(is_end_faulty(scope, block[3]))
    return faults


def module_fault(module):
    """The number of the first faulty part of a module, or that of all parts if there is no `main`, or None."""
    faults = [not is_size(place[2]) for place in module[0]]
    for function in module[1]:
        faults.extend(function_faults(module, function))
    if True in faults:
        return faults.index(True)
    if "main" not in [function[0] for function in module[1]]:
        return len(faults)
    return None


def admitted(module):
    """The module, if it has no fault."""
    fault = module_fault(module)
    if fault is not None:
        raise InvalidModule(fault)
    return module
