"""Places, contents and unread cells once more, by the words of the document."""

from anypasses.parts import operand_uses
from anypasses.shapes import end_targets
from anypasses.webs import reached_labels


def op_of(function, operand):
    """The op that makes an operand, or None."""
    found = [op for block in function[3] for op in block[2] if operand == ("v", op[0])]
    return found[0] if found else None


def read_signed(number, width):
    return number - 2 ** width if number >= 2 ** (width - 1) else number


def place(function, operand, width):
    """None for a row of `at`s that goes round."""
    offset = 0
    for _ in range(3000):
        op = op_of(function, operand)
        if op is None or op[1] != "at" or op[3][1][0] != "n":
            return operand, offset, width
        offset += read_signed(op[3][1][1], op[2][0])
        operand = op[3][0]
    return None


def base(function, operand):
    for _ in range(3000):
        op = op_of(function, operand)
        if op is None or op[1] != "at":
            return operand
        operand = op[3][0]
    return None


def made_by(function, operand, kind):
    op = op_of(function, operand)
    return op is not None and op[1] == kind


def private(function, value):
    """All that is made from the alloca by `at`s with numbers is looked for, then all uses of it."""
    if not made_by(function, ("v", value), "alloca"):
        return False
    lot = {value}
    while True:
        more = {op[0] for block in function[3] for op in block[2]
                if op[1] == "at" and op[3][1][0] == "n" and op[3][0][0] == "v" and op[3][0][1] in lot}
        if more <= lot:
            break
        lot |= more
    ops = {block[0]: block[2] for block in function[3]}
    for user, label, index, at in operand_uses(function):
        if user in lot:
            op = ops[label][index] if index < len(ops[label]) else (None, "end", None, None)
            good = (op[1], at) in (("load", 0), ("store", 1)) or op[1] == "at" and at == 0 and op[3][1][0] == "n"
            if not good:
                return False
    return True


def apart(function, one, other):
    if one[2] != other[2] or one[0] == other[0] and one[1] != other[1]:
        return True
    bases = [base(function, thing[0]) for thing in (one, other)]
    if bases[0] == bases[1]:
        return False
    kinds = []
    for thing in bases:
        alloca = made_by(function, thing, "alloca")
        kinds.append("global" if thing[0] == "g" else "alloca" if alloca else "param" if thing[1] < len(function[1]) else "other")
    if all(kind in ("global", "alloca") for kind in kinds):
        return True
    if any(kind == "alloca" and private(function, thing[1]) for kind, thing in zip(kinds, bases)):
        return True
    return sorted(kinds) == ["alloca", "param"]


def inside(module, function, spot):
    if spot is None:
        return False
    root, offset, width = spot
    sizes = [(one, size) for name, one, size, _ in module[0] if root == ("g", name)]
    if made_by(function, root, "alloca"):
        sizes = [op_of(function, root)[2]]
    return bool(sizes) and sizes[0][0] == width and 0 <= offset < sizes[0][1]


def goes_to(function, op):
    return place(function, op[3][-1], op[2][0])


def hidden(function, spot):
    """Whether no call can reach the place."""
    thing = base(function, spot[0])
    return thing is not None and thing[0] == "v" and private(function, thing[1])


def behind(module, function, spot, content, op):
    if op[0] is not None and spot[0] == ("v", op[0]):
        return ("n", 0) if op[1] == "alloca" and inside(module, function, spot) else None
    if op[1] == "load" and goes_to(function, op) == spot:
        return ("v", op[0])
    if op[1] == "store":
        if goes_to(function, op) == spot:
            return op[3][0]
        if not apart(function, spot, goes_to(function, op)):
            return None
    if op[1] == "call" and not hidden(function, spot):
        return None
    if op[0] is not None and content == ("v", op[0]):
        return None
    return content


def ahead(module, function, spot, told, label, index):
    content = told.get(label)
    for block in function[3]:
        if block[0] == label:
            for op in block[2][:index]:
                content = behind(module, function, spot, content, op)
    return content


def holds(module, function, spot, told):
    """For a dict of reached labels, not the entry's, and operands."""
    for source in reached_labels(function):
        _, _, ops, end = [block for block in function[3] if block[0] == source][0]
        for label, args in end_targets(end):
            if label not in told:
                continue
            params = [block for block in function[3] if block[0] == label][0][1]
            if spot[0] in [("v", value) for value, _ in params]:
                return False
            content = ahead(module, function, spot, told, source, len(ops))
            names = [("v", value) for value, _ in params]
            if told[label] in names:
                at = names.index(told[label])
                if content is None or params[at][1] != spot[2] or args[at] != content:
                    return False
            elif content is None or content != told[label]:
                return False
    return True


def unread(module, function, spot, labels, label, index):
    _, _, ops, end = [block for block in function[3] if block[0] == label][0]
    for op in ops[index:]:
        if op[1] == "store" and goes_to(function, op) == spot:
            return True
        if op[0] is not None and spot[0] == ("v", op[0]):
            return op[1] == "alloca" and private(function, op[0])
        if op[1] == "load" and not apart(function, spot, goes_to(function, op)):
            return False
        if op[1] == "call" and not hidden(function, spot):
            return False
    if end[0] == "stop":
        return True
    if end[0] == "return":
        return made_by(function, base(function, spot[0]), "alloca")
    for other, _ in end_targets(end):
        params = [block for block in function[3] if block[0] == other][0][1]
        if other not in labels or spot[0] in [("v", value) for value, _ in params]:
            return False
    return True
