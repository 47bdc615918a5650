"""Cells of a private alloca that become values and params of blocks ([42])."""

from anypasses.editing import retargeted, ways_by_label, with_blocks
from anypasses.forms import is_operand, is_small
from anypasses.kinds import is_number, is_pair
from anypasses.pointers import Pointers, pointer_of
from anypasses.shapes import defined_values
from anypasses.swapping import swapped_block
from anypasses.webs import entry_of


def cell_offsets(function, value):
    """The offsets of the cells of a private alloca that are loaded from or stored to, all of them inside; or None."""
    pointers = Pointers(function)
    if value not in pointers.privates:
        return None
    offsets = {}
    for block in function[3]:
        for op in block[2]:
            if op[1] not in ("load", "store"):
                continue
            spot = pointers.spot(pointer_of(op), op[2][0])
            if spot[0] != ("v", value):
                continue
            if not pointers.is_inside({}, spot):
                return None
            offsets[spot[1]] = True
    return tuple(sorted(offsets))


def is_new_entry(value):
    """Whether any value is an entry for a new param."""
    return is_pair(value) and value[0] == "new" and is_small(value[1])


def is_row_of_entries(value, count):
    """Whether any value is a tuple of so many entries: operands, or new params."""
    if not isinstance(value, tuple) or len(value) != count:
        return False
    return all([is_operand(entry) or is_new_entry(entry) for entry in value])


def has_promotion_form(function, count, value):
    """Whether any value has so many entries for each block but the entry, all new values being unlike and new."""
    if not isinstance(value, tuple) or not all([is_pair(pair) for pair in value]):
        return False
    labels = sorted([block[0] for block in function[3] if block[0] != entry_of(function)])
    if not all([is_number(label) for label, _ in value]) or [label for label, _ in value] != labels:
        return False
    if not all([is_row_of_entries(row, count) for _, row in value]):
        return False
    news = [entry[1] for _, row in value for entry in row if entry[0] == "new"]
    there = {made: True for made in defined_values(function)}
    return len(set(news)) == len(news) and all([new not in there for new in news])


def entry_content(entry):
    return ("v", entry[1]) if entry[0] == "new" else entry


class Promotion:
    """The cells of an alloca, their contents being followed through a function by a paper of the right form.

    `loaded` has for each value that is loaded from the cells the content ahead of its load, `ends` for each label the
    contents ahead of its block's end."""

    def __init__(self, function, value, offsets, paper):
        self.function = function
        self.owner = ("v", value)
        self.pointers = Pointers(function)
        self.width = self.pointers.makers[value][2][0]
        self.cells = {offset: at for at, offset in enumerate(offsets)}
        self.rows = dict(paper)
        self.loaded = {}
        self.ends = {}
        for block in function[3]:
            self.ends[block[0]] = self.followed(block)

    def cell_of(self, op):
        """The number of the cell to which a load or a store goes, or None."""
        if op[1] not in ("load", "store"):
            return None
        root, offset, _ = self.pointers.spot(pointer_of(op), op[2][0])
        return self.cells[offset] if root == self.owner else None

    def followed(self, block):
        """The contents ahead of the end of a block."""
        zeros = [("n", 0) for _ in self.cells]
        contents = [entry_content(entry) for entry in self.rows[block[0]]] if block[0] in self.rows else zeros
        for op in block[2]:
            made = ("v", op[0])
            if made == self.owner:
                contents = [("n", 0) for _ in self.cells]
                continue
            cell = self.cell_of(op)
            if cell is not None and op[1] == "load":
                self.loaded[op[0]] = contents[cell]
            if op[0] is not None and made in contents:
                contents = [None if content == made else content for content in contents]
            if cell is not None:
                contents[cell] = made if op[1] == "load" else op[3][0]
        return contents

    def meant(self, content):
        """The operand that a content is, no value that is loaded from the cells; None if there is none."""
        passed = {}
        while content is not None and content[0] == "v" and content[1] in self.loaded:
            if content in passed:
                return None
            passed[content] = True
            content = self.loaded[content[1]]
        return content

    def is_handed(self, entry, content):
        """Whether a way with this content ahead of its end may lead to a block with this entry."""
        told = self.meant(content)
        if told is None:
            return False
        return entry[0] == "new" or self.meant(entry) == told

    def fits(self):
        """Whether all ways bring what the paper tells, and all loads mean something."""
        if any([self.meant(("v", value)) is None for value in self.loaded]):
            return False
        ways = ways_by_label(self.function)
        for label in self.rows:
            for source, _ in ways[label]:
                contents = self.ends[source]
                if not all([self.is_handed(entry, content) for entry, content in zip(self.rows[label], contents)]):
                    return False
        return True

    def is_gone(self, op):
        """Whether an op goes: the alloca, an `at`, a load or a store of its cells."""
        if op[1] in ("load", "store"):
            return self.cell_of(op) is not None
        return op[0] is not None and op[1] in ("alloca", "at") and self.pointers.root(("v", op[0])) == self.owner

    def news(self, label):
        """The numbers of the cells for which a block gets a param."""
        if label not in self.rows:
            return []
        return [cell for cell, entry in enumerate(self.rows[label]) if entry[0] == "new"]

    def promoted(self):
        """The function without the alloca, the contents being handed on to the new params."""
        swaps = {value: self.meant(("v", value)) for value in self.loaded}
        blocks = []
        for label, params, ops, end in self.function[3]:
            more = [(self.rows[label][cell][1], self.width) for cell in self.news(label)]
            kept = tuple([op for op in ops if not self.is_gone(op)])
            blocks.append(swapped_block((label, params + tuple(more), kept, end), swaps))

        def change(source, at, target):
            handed = [self.meant(self.ends[source][cell]) for cell in self.news(target[0])]
            return (target[0], target[1] + tuple(handed))

        return retargeted(with_blocks(self.function, blocks), change)
