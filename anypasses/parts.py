"""Parts of a module, types of values, uses of values ([13])."""

from anypasses.shapes import end_operands


def part_places(module):
    """The places of all parts of a module, in the order of their numbers."""
    places = [("global", at) for at, _ in enumerate(module[0])]
    for at, function in enumerate(module[1]):
        places.append(("function", at))
        for k, block in enumerate(function[3]):
            places.append(("block", at, k))
            places.extend([("op", at, k, place) for place, _ in enumerate(block[2])])
            places.append(("end", at, k))
    return tuple(places)


def op_type(results, op):
    """The type that an op gives its value, or None; `results` has the result of each function by its name."""
    kind, info = op[1], op[2]
    if kind in ("bin", "cast"):
        return info[-1]
    if kind == "cmp":
        return 1
    if kind in ("alloca", "at"):
        return "ptr"
    if kind == "call":
        return results.get(info[0])
    return info[0]


def types_by_value(module, function):
    """The types of a function's values, None for those that have none."""
    results = {other[0]: other[2] for other in module[1]}
    kinds = {}
    for at, kind in enumerate(function[1]):
        kinds[at] = kind
    for block in function[3]:
        for value, kind in block[1]:
            kinds.setdefault(value, kind)
        for op in block[2]:
            if op[0] is not None:
                kinds.setdefault(op[0], op_type(results, op))
    return kinds


def value_types(module, function):
    """The pairs (value, type) of a function's values that have a type."""
    kinds = types_by_value(module, function)
    return tuple([(value, kinds[value]) for value in sorted(kinds) if kinds[value] is not None])


def value_uses(operands):
    """The pairs (value, index) of the values among some operands."""
    return [(operand[1], at) for at, operand in enumerate(operands) if operand[0] == "v"]


def operand_uses(function):
    """All (value, label, place, at) where the operand `at` of an op or ending of a function is the value."""
    uses = []
    for label, _, ops, end in function[3]:
        rows = [op[3] for op in ops] + [end_operands(end)]
        for place, operands in enumerate(rows):
            uses.extend([(value, label, place, at) for value, at in value_uses(operands)])
    return tuple(uses)
