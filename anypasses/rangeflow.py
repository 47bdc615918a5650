"""How entries of ranges go through the ops of a block, and over its end to others ([29]).

Entries are dicts here: for some values the pair of the least and the greatest number that they may have."""

from anypasses.editing import blocks_by_label, makers_of
from anypasses.ranges import bin_range, cmp_range, full, hull, narrowed
from anypasses.shapes import end_targets

SWAPPED_OPPOSITES = {"ult": "ule", "ule": "ult", "slt": "sle", "sle": "slt"}


def asked(entries, operand, width):
    """The range of an operand of this width."""
    word, thing = operand
    if word == "n":
        return (thing, thing)
    found = entries.get(thing)
    return full(width) if found is None or found[1] >= 1 << width else found


def asked_both(entries, args, width):
    """The ranges of the two args of an op, both of this width."""
    return asked(entries, args[0], width), asked(entries, args[1], width)


def give(entries, value, width, told):
    """Gives a value of this width its entry; what may be anything has none."""
    if told == full(width):
        lose(entries, value)
    else:
        entries[value] = told


def lose(entries, value):
    if value in entries:
        del entries[value]


def selected(entries, op):
    """The range of what a `select` of a width takes."""
    condition, one, other = op[3]
    width = op[2][0]
    taken = asked(entries, condition, 1)
    if taken == (1, 1):
        return asked(entries, one, width)
    if taken == (0, 0):
        return asked(entries, other, width)
    return hull(asked(entries, one, width), asked(entries, other, width))


def go_past(entries, op):
    """Gives, or takes away, the entry of the value that an op makes."""
    value, kind, info, args = op
    if kind == "bin":
        one, other = asked_both(entries, args, info[1])
        give(entries, value, info[1], bin_range(info[0], info[1], one, other))
    elif kind == "cmp":
        one, other = asked_both(entries, args, info[1])
        give(entries, value, 1, cmp_range(info[0], info[1], one, other))
    elif kind == "cast" and info[0] == "zext":
        give(entries, value, info[2], asked(entries, args[0], info[1]))
    elif kind == "select" and info[0] != "ptr":
        give(entries, value, info[0], selected(entries, op))
    elif value is not None:
        lose(entries, value)


def opposite(pred, args):
    """The comparison, and its args, that hold where this one does not."""
    if pred == "eq":
        return ("ne", args)
    if pred == "ne":
        return ("eq", args)
    return (SWAPPED_OPPOSITES[pred], (args[1], args[0]))


def narrow(entries, pred, width, args):
    """Narrows both operands of a comparison that holds; tells whether it can hold."""
    one, other = asked_both(entries, args, width)
    told = narrowed(pred, width, one, other)
    if told is None:
        return False
    for operand, less in zip(args, told):
        if operand[0] == "v":
            give(entries, operand[1], width, less)
    return True


def hand_on(entries, params, args):
    """Gives the params of a block the entries of the args that are handed to them, all at once."""
    told = [None if kind == "ptr" else asked(entries, arg, kind) for (_, kind), arg in zip(params, args)]
    for (value, kind), taken in zip(params, told):
        if taken is None:
            lose(entries, value)
        else:
            give(entries, value, kind, taken)


class RangeFlow:
    """The blocks of a function, and which op makes which value."""

    def __init__(self, function):
        self.blocks = blocks_by_label(function)
        self.makers = makers_of(function)

    def ahead_of(self, label, entries, index):
        """The entries ahead of an index of a block, from those at its start."""
        later = dict(entries)
        for op in self.blocks[label][2][:index]:
            go_past(later, op)
        return later

    def on_side(self, entries, condition, number):
        """The entries where the condition of a branch, a value, is this number; None if it cannot be."""
        side = dict(entries)
        side[condition] = (number, number)
        op = self.makers.get(condition)
        if op is None or op[1] != "cmp":
            return side
        pred, width = op[2]
        args = op[3]
        if number == 0:
            pred, args = opposite(pred, args)
        return side if narrow(side, pred, width, args) else None

    def sides(self, entries, end):
        """The entries that go to each target of an end, unlike dicts, None where nothing goes."""
        if end[0] == "jump":
            return (entries,)
        if end[0] != "branch":
            return ()
        taken = asked(entries, end[1], 1)
        if taken == (1, 1):
            return (entries, None)
        if taken == (0, 0):
            return (None, entries)
        return (self.on_side(entries, end[1][1], 1), self.on_side(entries, end[1][1], 0))

    def handed(self, label, entries):
        """For each target of a block the entries at its start, from those at the block's own start."""
        _, _, ops, end = self.blocks[label]
        told = self.sides(self.ahead_of(label, entries, len(ops)), end)
        for side, (other, args) in zip(told, end_targets(end)):
            if side is not None:
                hand_on(side, self.blocks[other][1], args)
        return told
