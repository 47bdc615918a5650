"""Range papers once more, by the words of the document, on plain dicts."""

from anypasses.ranges import bin_range, cmp_range, narrowed

OPPOSITE = {"eq": "ne", "ne": "eq", "ult": "ule", "ule": "ult", "slt": "sle", "sle": "slt"}


def every(width):
    return (0, 2 ** width - 1)


def look(facts, operand, width):
    if operand[0] == "n":
        return (operand[1],) * 2
    low, high = facts.get(operand[1], every(width))
    return (low, high) if high < 2 ** width else every(width)


def keep(facts, value, width, told):
    facts.pop(value, None)
    if told is not None and told != every(width):
        facts[value] = told


def past(facts, op):
    value, kind, info, args = op
    if kind == "bin":
        told, width = bin_range(info[0], info[1], *[look(facts, arg, info[1]) for arg in args]), info[1]
    elif kind == "cmp":
        told, width = cmp_range(info[0], info[1], *[look(facts, arg, info[1]) for arg in args]), 1
    elif kind == "cast" and info[0] == "zext":
        told, width = look(facts, args[0], info[1]), info[2]
    elif kind == "select" and info[0] != "ptr":
        width, taken = info[0], look(facts, args[0], 1)
        both = [look(facts, arg, width) for arg in args[1:]]
        told = {(1, 1): both[0], (0, 0): both[1]}.get(taken, (min(both)[0], max(one[1] for one in both)))
    else:
        told, width = None, 64
    if value is not None:
        keep(facts, value, width, told)


def walked(function, label, facts, index):
    facts = dict(facts)
    block = [block for block in function[3] if block[0] == label][0]
    for op in block[2][:index]:
        past(facts, op)
    return facts


def sides(function, facts, end):
    """A pair (target, facts) for each target to which the end goes."""
    if end[0] == "jump":
        return [(0, end[1], facts)]
    if end[0] != "branch":
        return []
    told = []
    for at, number in ((0, 1), (1, 0)):
        side = dict(facts)
        taken = look(facts, end[1], 1)
        if taken == (1 - number,) * 2:
            continue
        if taken == (0, 1):
            condition = end[1][1]
            side[condition] = (number, number)
            makers = [op for block in function[3] for op in block[2] if op[0] == condition and op[1] == "cmp"]
            if makers:
                (pred, width), args = makers[0][2:]
                if not number:
                    args = args if pred in ("eq", "ne") else args[::-1]
                    pred = OPPOSITE[pred]
                less = narrowed(pred, width, look(side, args[0], width), look(side, args[1], width))
                if less is None:
                    continue
                for arg, one in zip(args, less):
                    if arg[0] == "v":
                        keep(side, arg[1], width, one)
        told.append((at, end[2 + at], side))
    return told


def handed(function, label, facts):
    """A triple (index of the target, label, facts) for each target to which a block goes."""
    block = [block for block in function[3] if block[0] == label][0]
    told = []
    for at, (other, args), side in sides(function, walked(function, label, facts, len(block[2])), block[3]):
        params = [block for block in function[3] if block[0] == other][0][1]
        later = dict(side)
        for (value, kind), arg in zip(params, args):
            keep(later, value, 64 if kind == "ptr" else kind, None if kind == "ptr" else look(side, arg, kind))
        told.append((at, other, later))
    return told


def joined(old, new):
    told = {}
    for value in old:
        if value in new:
            low, high = old[value]
            if new[value][0] < low:
                low = max(number for number in [0] + [2 ** k for k in range(64)] if number <= new[value][0])
            if new[value][1] > high:
                high = min(2 ** k - 1 for k in range(65) if 2 ** k - 1 >= new[value][1])
            told[value] = (low, high)
    return told


def as_paper(facts):
    return tuple((label, tuple((value,) + facts[label][value] for value in sorted(facts[label]))) for label in sorted(facts))


def as_facts(paper):
    return {label: {value: (low, high) for value, low, high in row} for label, row in paper}


def known(function):
    facts, changed = {function[3][0][0]: {}}, True
    while changed:
        changed = False
        for label in sorted(block[0] for block in function[3]):
            if label in facts:
                for _, other, later in handed(function, label, facts[label]):
                    new = joined(facts[other], later) if other in facts else later
                    changed = changed or facts.get(other) != new
                    facts[other] = new
    return as_paper(facts)


def is_paper(function, paper):
    """The words of a range paper, for what has its form."""
    facts = as_facts(paper)
    if facts.get(function[3][0][0]) != {}:
        return False
    for label in facts:
        for _, other, later in handed(function, label, facts[label]):
            if other not in facts:
                return False
            for value, (low, high) in facts[other].items():
                if value not in later or not low <= later[value][0] <= later[value][1] <= high:
                    return False
    return True
