"""Which values are still wanted where ([27])."""

from anypasses.kinds import are_ascending, is_number, is_pair
from anypasses.shapes import defined_values, end_operands, end_targets


def values_among(operands):
    return tuple(sorted({operand[1] for operand in operands if operand[0] == "v"}))


def op_uses(op):
    """The values among the operands of an op."""
    return values_among(op[3])


def end_uses(end):
    """The values among the operands of an end, with those handed to targets."""
    return values_among(end_operands(end))


class Lives:
    """The live values of a function, sets of values being held as bits of a number.

    `starts` has for each label the bits of what is live at the start of its block; all are found in rounds from none
    on, so that the least lots come out."""

    def __init__(self, function):
        self.names = sorted(set(defined_values(function)))
        self.bits = {value: 1 << at for at, value in enumerate(self.names)}
        self.blocks = {block[0]: block for block in function[3]}
        self.params = {label: self.bits_of([value for value, _ in self.blocks[label][1]]) for label in self.blocks}
        self.starts = {label: 0 for label in self.blocks}
        changed = True
        while changed:
            changed = False
            for label in self.blocks:
                told = self.sites(label)[0]
                if told != self.starts[label]:
                    self.starts[label] = told
                    changed = True

    def bits_of(self, values):
        told = 0
        for value in values:
            told = told | self.bits[value]
        return told

    def sites(self, label):
        """The bits of what is live at each index of a block, as far as is known of the starts of others."""
        _, _, ops, end = self.blocks[label]
        told = self.bits_of(end_uses(end))
        for other, _ in end_targets(end):
            told = told | (self.starts[other] & ~self.params[other])
        row = [told]
        for op in ops[::-1]:
            made = 0 if op[0] is None else self.bits[op[0]]
            told = (told & ~made) | self.bits_of(op_uses(op))
            row.append(told)
        return row[::-1]

    def values_in(self, told):
        return tuple([value for value in self.names if told & self.bits[value] != 0])


def live_values(function):
    """For each label of a function the pair of it and of what is live at each index of its block."""
    known = Lives(function)
    return tuple([(label, tuple([known.values_in(told) for told in known.sites(label)]))
                  for label in sorted(known.blocks)])


def is_lives_row(value, count):
    """Whether any value is a tuple of so many ascending tuples of numbers."""
    if not isinstance(value, tuple) or len(value) != count:
        return False
    for row in value:
        if not isinstance(row, tuple) or not all([is_number(one) for one in row]) or not are_ascending(row):
            return False
    return True


def has_live_form(blocks, value):
    """Whether any value has a row of lives for each label, ascending."""
    if not isinstance(value, tuple) or not all([is_pair(pair) for pair in value]):
        return False
    if not all([is_number(label) for label, _ in value]) or [label for label, _ in value] != sorted(blocks):
        return False
    return all([is_lives_row(row, len(blocks[label][2]) + 1) for label, row in value])


def has_all(row, wanted, made):
    """Whether a row of values has all that are wanted but those that are made between."""
    there = {value: True for value in row}
    return all([value in there or value in made for value in wanted])


def is_row_kept(block, row):
    """Whether the lives ahead of each op of a block have what it uses, and what is live behind it."""
    for at, op in enumerate(block[2]):
        if not has_all(row[at], op_uses(op), ()) or not has_all(row[at], row[at + 1], (op[0],)):
            return False
    return has_all(row[-1], end_uses(block[3]), ())


def is_live_paper(function, value):
    """Whether any value is a live paper of a function."""
    blocks = {block[0]: block for block in function[3]}
    if not has_live_form(blocks, value):
        return False
    rows = dict(value)
    for label in blocks:
        block = blocks[label]
        if not is_row_kept(block, rows[label]):
            return False
        for other, _ in end_targets(block[3]):
            if not has_all(rows[label][-1], rows[other][0], [param for param, _ in blocks[other][1]]):
                return False
    return True
