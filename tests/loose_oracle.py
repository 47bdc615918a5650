"""Which steps are loose, by the words of [55] to [57]: all that may be one is tried."""

from anypasses.dominating import dominates
from anypasses.errors import InvalidStep
from anypasses.judge import apply_step
from anypasses.knowing import is_number_paper, known_numbers
from anypasses.pureness import folded
from anypasses.rangepapers import known_ranges, range_at
from anypasses.shapes import end_targets
from anypasses.webs import home_of, reached_labels
from passing import function_of, uses_of


def fits(module, step):
    try:
        apply_step(module, step)
        return True
    except InvalidStep:
        return False


def ways_into(function, label):
    return [(block, at) for block in function[3] for at, (other, _) in enumerate(end_targets(block[3])) if other == label]


def sides_by_words(function):
    """The triples of [56]."""
    found = set()
    made = {op[0]: op for block in function[3] for op in block[2] if op[0] is not None}
    for label in reached_labels(function):
        ways = ways_into(function, label)
        if len(ways) != 1:
            continue
        (_, _, _, end), at = ways[0]
        if end[0] != "branch" or end[1][0] != "v" or end[2][0] == end[3][0]:
            continue
        condition = end[1][1]
        found.add((label, condition, 1 if at == 0 else 0))
        op = made.get(condition)
        if op is not None and op[1] == "cmp" and op[2][0] == ("eq" if at == 0 else "ne"):
            for one, other in (op[3], op[3][::-1]):
                if one[0] == "v" and other[0] == "n":
                    found.add((label, one[1], other[1]))
    return tuple(sorted(found))


def is_loose_side(module, function, step):
    """Whether a "use_in" puts the number of a triple in the place of a value that a reached block behind the side uses."""
    _, _, label, value, operand = step
    if operand[0] != "n" or (label, value, operand[1]) not in sides_by_words(function):
        return False
    behind = [other for other in reached_labels(function) if dominates(function, label, other)]
    return uses_of(function, behind).get(value, 0) > 0


def is_loose(module, step, ranges):
    """Whether a step is loose, as [57] tells if `ranges`, as [55] tells if not."""
    if not fits(module, step):
        return False
    if step[0] in ("pick", "drop"):
        return True
    function = function_of(module, step[1])
    if step[0] == "use_in":
        return ranges and is_loose_side(module, function, step)
    if step[0] != "use" or step[3][0] != "n" or uses_of(function).get(step[2], 0) == 0:
        return False
    word = step[4][0]
    return word == "fold" or word == "range" and (ranges or is_number_paper(function, step[4][1]))


def candidates(function, ranges):
    """All steps that may be loose with the papers that the goals speak of."""
    name = function[0]
    papers = [known_numbers(function)] + ([known_ranges(function)] if ranges else [])
    steps = [("drop", name)] + [("pick", name, block[0]) for block in function[3]]
    for label, params, ops, _ in function[3]:
        for op in ops:
            if folded(op) is not None:
                steps.append(("use", name, op[0], ("n", folded(op)), ("fold",)))
        for value in [value for value, _ in params] + [op[0] for op in ops if op[0] is not None]:
            index = home_of(function, value)[1]
            for paper in papers:
                told = range_at(function, paper, (label, index + 1), value)
                if told is not None and told[0] == told[1]:
                    steps.append(("use", name, value, ("n", told[0]), ("range", paper)))
    if ranges:
        steps.extend(("use_in", name, label, value, ("n", number)) for label, value, number in sides_by_words(function))
    return steps


def some_loose(module, ranges):
    """Some loose step, or None."""
    for function in module[1]:
        for step in candidates(function, ranges):
            if is_loose(module, step, ranges):
                return step
    return None


def many_things(module):
    """How many operands that are values, branches and blocks there are."""
    return sum(sum(uses_of(function).values()) + sum(block[3][0] == "branch" for block in function[3]) + len(function[3]) for function in module[1])
