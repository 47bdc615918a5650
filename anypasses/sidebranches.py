"""Blocks behind one side of a branch, and what is known of values there ([34])."""

from anypasses.editing import makers_of, ways_by_label
from anypasses.shapes import end_targets
from anypasses.webs import block_at, reached_labels


def only_way_in(function, label):
    """The only way into a reached block, or None."""
    ways = ways_by_label(function)[label]
    if len(ways) != 1 or label not in reached_labels(function):
        return None
    return ways[0]


def side_of(function, label):
    """The value on which the branch ahead of a block is, and its number on this side; None if the block is no side."""
    way = only_way_in(function, label)
    if way is None:
        return None
    end = block_at(function, way[0])[3]
    if end[0] != "branch" or end[1][0] != "v":
        return None
    labels = [other for other, _ in end_targets(end)]
    return (end[1][1], 1 - way[1]) if labels[0] != labels[1] else None


def told_on_side(function, condition, number, value):
    """The operands that a value is known to equal where the condition of a branch is this number."""
    told = []
    if value == condition:
        told.append(("n", number))
    op = makers_of(function).get(condition)
    if op is None or op[1] != "cmp" or op[2][0] != ("eq" if number == 1 else "ne"):
        return told
    one, other = op[3]
    if one == ("v", value):
        told.append(other)
    if other == ("v", value):
        told.append(one)
    return told
