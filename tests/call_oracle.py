"""Steps on calls and on whole functions once more, as the document tells them."""

from anypasses.forms import is_operand
from anypasses.kinds import is_number
from anypasses.parts import value_types
from anypasses.pureness import is_pure
from anypasses.renumbering import renumbered
from anypasses.shapes import defined_values
from step_oracle import Draft, Unfit, need, put, targets

CALL_WORDS = ("call_out", "constant_arg", "functions_out", "globals_out", "inline", "merge", "param_drop", "result_drop", "result_known", "tail_loop")
ARITIES = {"inline": 4, "tail_loop": 2, "param_drop": 3, "constant_arg": 4, "result_drop": 2, "result_known": 3, "functions_out": 2, "globals_out": 2, "call_out": 4,
           "merge": 2}


def told_call(module, step):
    try:
        need(type(step) is tuple and len(step) > 0 and type(step[0]) is str and ARITIES.get(step[0]) == len(step), 0)
        if step[0] in ("functions_out", "globals_out", "merge"):
            return whole_step(module, step)
        need(type(step[1]) is str and step[1] in [function[0] for function in module[1]], 1)
        draft = Draft(module, step[1])
        if step[0] in ("inline", "call_out"):
            return site_step(module, draft, *step)
        return signature_step(module, draft, step)
    except Unfit as unfit:
        return unfit.args[0]


def named(module, name):
    return [function for function in module[1] if function[0] == name][0]


def calls(function):
    return [op for block in function[3] for op in block[2] if op[1] == "call"]


def uses(function, value):
    """How often a value is an operand; only operands are pairs that begin with "v"."""
    def count(thing):
        if thing == ("v", value) and len(thing) == 2:
            return 1
        return sum(count(part) for part in thing) if type(thing) is tuple else 0
    return sum(count(block[2:]) for block in function[3])


def with_ops(module, change):
    """The module with other ops: `change(name, op)` tells each."""
    functions = []
    for name, params, result, blocks in module[1]:
        blocks = tuple((label, values, tuple(change(name, op) for op in ops), end) for label, values, ops, end in blocks)
        functions.append((name, params, result, blocks))
    return module[0], tuple(functions)


def with_function(module, new):
    return module[0], tuple(new if function[0] == new[0] else function for function in module[1])


def quiet_by_words(module):
    """For each quiet function the most fuel of a way from the entry to a return, found by walking all ways."""
    known = {}
    for _ in module[1]:
        for function in module[1]:
            fuel = quiet_function(function, known)
            if fuel is not None:
                known[function[0]] = fuel
    return tuple(sorted(known.items()))


def quiet_function(function, known):
    blocks = {block[0]: block for block in function[3]}
    own = {}
    for label, _, ops, end in function[3]:
        for op in ops:
            if not (is_pure(op) or op[1] == "alloca" or op[1] == "call" and op[2][0] in known):
                return None
        if end[0] == "stop":
            return None
        own[label] = 1 + sum(1 + (known[op[2][0]] if op[1] == "call" else 0) for op in ops)
    longest = {}

    def walk(label, way):
        if label in way:
            raise Unfit
        if label not in longest:
            longest[label] = own[label] + max([walk(other, way + [label]) for other, _ in targets(blocks[label][3])], default=0)
        return longest[label]

    try:
        for label in blocks:
            walk(label, [])
    except Unfit:
        return None
    return longest[function[3][0][0]]


def alike_by_words(module, value):
    names = [function[0] for function in module[1]]
    if type(value) is not tuple or not value or not all(type(pair) is tuple and len(pair) == 2 for pair in value):
        return False
    if not all(type(name) is str and name in names for pair in value for name in pair) or list(value) != sorted(set(value)):
        return False
    firsts = [one for one, _ in value]
    if len(set(firsts)) != len(firsts) or "main" in firsts or any(other in firsts for _, other in value):
        return False
    if any(named(module, one)[1:3] != named(module, other)[1:3] for one, other in value):
        return False
    # All functions renumbered at once, in a module in which the calls of first ones are written as those of second ones.
    turned = renumbered(with_ops(module, lambda _, op: turned_op(op, dict(value))))
    return all(named(turned, one)[1:] == named(turned, other)[1:] for one, other in value)


def turned_op(op, names):
    return (op[0], op[1], (names.get(op[2][0], op[2][0]),), op[3]) if op[1] == "call" else op


def are_names(value, known):
    return type(value) is tuple and len(value) > 0 and all(type(name) is str and name in known for name in value) and list(value) == sorted(set(value))


def whole_step(module, step):
    word, told = step
    if word == "merge":
        need(alike_by_words(module, told), 1)
        return with_ops(module, lambda _, op: turned_op(op, dict(told)))
    if word == "functions_out":
        need(are_names(told, [function[0] for function in module[1] if function[0] != "main"]), 1)
        need(all(op[2][0] not in told for function in module[1] if function[0] not in told for op in calls(function)), 1)
        return module[0], tuple(function for function in module[1] if function[0] not in told)
    need(are_names(told, [place[0] for place in module[0]]), 1)
    need(not any(mentions(block[2:], name) for name in told for function in module[1] for block in function[3]), 1)
    return tuple(place for place in module[0] if place[0] not in told), module[1]


def mentions(thing, name):
    if thing == ("g", name):
        return True
    return type(thing) is tuple and any(mentions(part, name) for part in thing)


def site_step(module, draft, word, name, label, index):
    need(is_number(label) and label in draft.labels, 2)
    row = draft.row(label)
    need(is_number(index) and index < len(row[2]) and row[2][index][1] == "call", 3)
    op = row[2][index]
    if word == "call_out":
        need(op[2][0] in dict(quiet_by_words(module)) and (op[0] is None or uses(draft.function, op[0]) == 0), 3)
        row[2] = row[2][:index] + row[2][index + 1:]
        return draft.built()
    callee = named(module, op[2][0])
    blocks = len(draft.rows) + len(callee[3]) + 1
    ops = sum(len(block[2]) for block in draft.function[3] + callee[3]) - 1
    need(blocks <= 200 and ops <= 2000, 3)
    first, value = draft.fresh()
    labels = {block[0]: first + at for at, block in enumerate(callee[3])}
    last = first + len(labels)
    swaps, numbers = {}, {}
    for at, made in enumerate(defined_values(callee)):
        numbers[made] = value + at - len(op[3])
        swaps[made] = op[3][made] if made < len(op[3]) else ("v", numbers[made])
    more = []
    for old, params, inner, end in callee[3]:
        end = put(end, swaps)
        if end[0] == "return":
            end = ("jump", (last, () if end[1] is None else (end[1],)))
        else:
            end = tuple((labels[part[0]], part[1]) if part in targets(end) else part for part in end)
        inner = tuple((None if one[0] is None else numbers[one[0]],) + put(one[1:], swaps) for one in inner)
        more.append([labels[old], tuple((numbers[made], kind) for made, kind in params), inner, end])
    tail = [last, () if op[0] is None else ((op[0], callee[2]),), row[2][index + 1:], row[3]]
    row[2:] = [row[2][:index], ("jump", (first, ()))]
    draft.rows += more + [tail]
    return draft.built()


def signature_step(module, draft, step):
    return {"tail_loop": told_tail, "param_drop": told_param, "constant_arg": told_constant, "result_drop": told_drop, "result_known": told_known}[step[0]](
        module, draft.function, draft, step)


def told_tail(module, function, draft, step):
    name, params, result, blocks = function
    tails = []
    for label, _, ops, end in blocks:
        if ops and ops[-1][1] == "call" and ops[-1][2][0] == name and end[0] == "return":
            if result is None or end[1] == ("v", ops[-1][0]) and uses(function, ops[-1][0]) == 1:
                tails.append(label)
    need(tails, 1)
    label, value = draft.fresh()
    news = [(value + at, kind) for at, kind in enumerate(params)]
    draft.put({at: ("v", value + at) for at in range(len(params))})
    entry = draft.labels[0]
    for tail in tails:
        row = draft.row(tail)
        row[2:] = [row[2][:-1], ("jump", (entry, row[2][-1][3]))]
    draft.row(entry)[1] = tuple(news)
    draft.rows = [[label, (), (), ("jump", (entry, tuple(("v", at) for at in range(len(params)))))]] + draft.rows
    return draft.built()


def told_param(module, function, draft, step):
    name, at = step[1:]
    need(is_number(at) and at < len(function[1]), 2)
    own = sum(op[3][at] == ("v", at) for op in calls(function) if op[2][0] == name)
    need(uses(function, at) == own, 2)

    def change(_, op):
        return op[:3] + (op[3][:at] + op[3][at + 1:],) if op[1] == "call" and op[2][0] == name else op

    later = named(with_ops(module, change), name)
    swaps = {k: ("v", k - 1) for k in range(at + 1, len(function[1]))}
    blocks = tuple(block[:2] + put(block[2:], swaps) for block in later[3])
    return with_function(with_ops(module, change), (name, function[1][:at] + function[1][at + 1:], function[2], blocks))


def told_constant(module, function, draft, step):
    name, at, operand = step[1:]
    need(is_number(at) and at < len(function[1]), 2)
    need(is_operand(operand) and operand[0] != "v", 3)
    kind = function[1][at]
    need(operand[1] in [place[0] for place in module[0]] if operand[0] == "g" else kind != "ptr" and operand[1] < 2 ** kind, 3)
    need((operand[0] == "g") == (kind == "ptr"), 3)
    for other in module[1]:
        for op in calls(other):
            if op[2][0] == name:
                need(op[3][at] == operand or other[0] == name and op[3][at] == ("v", at), 3)
    draft.put({at: operand})
    return draft.built()


def told_drop(module, function, draft, step):
    name = step[1]
    need(name != "main" and function[2] is not None, 1)
    for other in module[1]:
        for op in calls(other):
            if op[2][0] == name:
                returned = sum(block[3] == ("return", ("v", op[0])) for block in other[3]) if other[0] == name else 0
                need(uses(other, op[0]) == returned, 1)
    module = with_ops(module, lambda _, op: (None,) + op[1:] if op[1] == "call" and op[2][0] == name else op)
    blocks = tuple(block[:3] + (("return", None),) if block[3][0] == "return" else block for block in named(module, name)[3])
    return with_function(module, (name, function[1], None, blocks))


def told_known(module, function, draft, step):
    name, operand = step[1:]
    need(function[2] is not None, 1)
    need(is_operand(operand) and operand[0] != "g", 2)
    if operand[0] == "n":
        need(operand[1] < 2 ** function[2], 2)
    else:
        need(operand[1] < len(function[1]) and function[1][operand[1]] == function[2], 2)
    own = {op[0]: op for op in calls(function) if op[2][0] == name}
    for block in function[3]:
        if block[3][0] == "return" and block[3][1] != operand:
            op = own.get(block[3][1][1]) if block[3][1][0] == "v" else None
            need(op is not None and (operand[0] == "n" or op[3][operand[1]] == operand), 2)
    functions = []
    for other in module[1]:
        swaps = {op[0]: operand if operand[0] == "n" else op[3][operand[1]] for op in calls(other) if op[2][0] == name}
        functions.append(other[:3] + (tuple(block[:2] + put(block[2:], swaps) for block in other[3]),))
    return module[0], tuple(functions)
