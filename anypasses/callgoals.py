"""What passes on calls leave nothing of ([70] to [73])."""

from anypasses.callbook import CallBook
from anypasses.callees import quiet_fuel
from anypasses.calling import called_names
from anypasses.inlining import count_of_ops, is_room_for
from anypasses.likeness import doubled_pairs
from anypasses.tails import Tails
from anypasses.unneeded import CallsOut, unused_functions, unused_globals

MOST_SMALL_OPS = 12


def small_functions(functions):
    """Those of these functions that have no calls and few ops, by their names."""
    return {function[0]: function for function in functions
            if len(called_names(function)) == 0 and count_of_ops(function) <= MOST_SMALL_OPS}


def small_call_in(function, smalls):
    """The step for some small call in a function, or None."""
    for label, _, ops, _ in function[3]:
        for index, op in enumerate(ops):
            if op[1] == "call" and op[2][0] in smalls and is_room_for(function, smalls[op[2][0]]):
                return ("inline", function[0], label, index)
    return None


def small_call(module):
    """The step for some small call, or None."""
    smalls = small_functions(module[1])
    for function in module[1]:
        step = small_call_in(function, smalls)
        if step is not None:
            return step
    return None


def tail_left(module):
    """Some pair of the name of a function and the label of a block with a tail call or a late one, or None."""
    for function in module[1]:
        tails = Tails(function)
        labels = tails.early_labels() + tails.late_labels()
        if len(labels) > 0:
            return (function[0], labels[0])
    return None


def loose_signature(module):
    """Some step of use on params or a result, or None."""
    book = CallBook(module)
    for name in book.functions:
        step = book.loose_step(name)
        if step is not None:
            return step
    return None


def doubled_call(module):
    """The step by which functions that do the same are called by one name alone; None if they are so."""
    pairs = doubled_pairs(module)
    return ("merge", pairs) if len(pairs) > 0 else None


def needless_call(module):
    """The step for some call that nobody needs, or None."""
    quiet = dict(quiet_fuel(module))
    for function in module[1]:
        calls = CallsOut(function, quiet)
        calls.go_over_all()
        if len(calls.steps) > 0:
            return calls.steps[0]
    return None


def unused_thing(module):
    """The step for something that nobody needs, or None."""
    step = needless_call(module)
    if step is not None:
        return step
    names = unused_functions(module)
    if len(names) > 0:
        return ("functions_out", names)
    names = unused_globals(module)
    return ("globals_out", names) if len(names) > 0 else None
