"""Functions the calls of which may go, or become calls of others ([45])."""

from anypasses.editing import with_ops
from anypasses.kinds import are_ascending, is_pair
from anypasses.pureness import is_pure
from anypasses.renumbering import renumbered_function
from anypasses.stepforms import is_among
from anypasses.webs import web_of


def ordered_labels(web):
    """The labels of a web, each ahead of those to which it leads; None if some way has a label twice."""
    left = {label: 0 for label in web}
    for label in web:
        for other in web[label]:
            left[other] += 1
    waiting = [label for label in web if left[label] == 0]
    order = []
    while len(waiting) > 0:
        label = waiting.pop()
        order.append(label)
        for other in web[label]:
            left[other] -= 1
            if left[other] == 0:
                waiting.append(other)
    return order if len(order) == len(web) else None


def block_fuel(block, known):
    """The fuel that a block takes itself, that of the functions it calls being known; None if it is not quiet."""
    fuel = 1
    for op in block[2]:
        if op[1] == "call":
            if op[2][0] not in known:
                return None
            fuel = fuel + known[op[2][0]]
        elif op[1] != "alloca" and not is_pure(op):
            return None
        fuel = fuel + 1
    return None if block[3][0] == "stop" else fuel


def function_fuel(function, known):
    """The most fuel that a function takes, that of other quiet ones being known; None if it is not quiet."""
    web = web_of(function)
    order = ordered_labels(web)
    own = {block[0]: block_fuel(block, known) for block in function[3]}
    if order is None or None in list(own.values()):
        return None
    most = {}
    for label in order[::-1]:
        most[label] = own[label] + max([most[other] for other in web[label]], default=0)
    return most[function[3][0][0]]


def quiet_fuel(module):
    """The pairs of the name of each quiet function and the most fuel that it takes."""
    known = {}
    changed = True
    while changed:
        changed = False
        for function in module[1]:
            if function[0] not in known:
                fuel = function_fuel(function, known)
                if fuel is not None:
                    known[function[0]] = fuel
                    changed = True
    return tuple([(name, known[name]) for name in sorted(known)])


def with_calls_turned(function, names):
    """The function with calls of others, told by a dict for the names of those called now."""

    def change(op):
        if op[1] != "call" or op[2][0] not in names:
            return op
        return (op[0], op[1], (names[op[2][0]],), op[3])

    return with_ops(function, change)


def are_pairs_of_names(names, value):
    """Whether any value is an ascending tuple, not empty, of pairs of these names."""
    if not isinstance(value, tuple) or len(value) == 0 or not all([is_pair(pair) for pair in value]):
        return False
    return all([is_among(name, names) for pair in value for name in pair]) and are_ascending(value)


def is_alike(module, value):
    """Whether any value is a tuple of pairs of functions that do the same if calls of first ones go to second ones."""
    functions = {function[0]: function for function in module[1]}
    if not are_pairs_of_names(functions, value):
        return False
    turned = dict(value)
    if len(turned) < len(value) or "main" in turned or any([other in turned for _, other in value]):
        return False
    for one, other in value:
        first = renumbered_function(with_calls_turned(functions[one], turned))
        second = renumbered_function(with_calls_turned(functions[other], turned))
        if first[1:] != second[1:]:
            return False
    return True
