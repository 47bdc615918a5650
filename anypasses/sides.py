"""What is known behind one side of a branch ([56])."""

from anypasses.editing import blocks_by_label, makers_of, ways_by_label
from anypasses.webs import reached_labels


def number_arg(op, pred):
    """The value and the number that an op compares by this word, or None."""
    if op is None or op[1] != "cmp" or op[2][0] != pred:
        return None
    words = (op[3][0][0], op[3][1][0])
    if words == ("v", "n"):
        return (op[3][0][1], op[3][1][1])
    return (op[3][1][1], op[3][0][1]) if words == ("n", "v") else None


def is_forked(end):
    """Whether an end is a branch on a value with two labels."""
    return end[0] == "branch" and end[1][0] == "v" and end[2][0] != end[3][0]


def told_behind(makers, end, at):
    """The pairs (value, number) that hold behind the target with this index of a branch on a value."""
    condition = end[1][1]
    told = [(condition, 1 - at)]
    compared = number_arg(makers.get(condition), "eq" if at == 0 else "ne")
    if compared is not None:
        told.append(compared)
    return told


def known_sides(function):
    """The triples (label, value, number) of the sides of a function."""
    blocks = blocks_by_label(function)
    makers = makers_of(function)
    ways = ways_by_label(function)
    found = {}
    for label in reached_labels(function):
        if len(ways[label]) != 1:
            continue
        source, at = ways[label][0]
        end = blocks[source][3]
        if is_forked(end):
            for value, number in told_behind(makers, end, at):
                found[(label, value, number)] = True
    return tuple(sorted(found))
