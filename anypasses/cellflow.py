"""The most that can be told of cells: what they equal, and from where on nobody reads them ([64])."""

from anypasses.cellfacts import CellFacts, makes
from anypasses.editing import blocks_by_label, homes_of, ways_by_label
from anypasses.orders import defining_order
from anypasses.pointers import Pointers, pointer_of
from anypasses.webs import entry_of

# Stands for whatever the content was at the start of a block; no operand equals it.
PASSED = ("passed",)
TELLING = ("load", "store", "call")


class Memory:
    """A function, the pointers in it, and for each label the ops that may change or read cells."""

    def __init__(self, function):
        self.function = function
        self.pointers = Pointers(function)
        self.blocks = blocks_by_label(function)
        self.homes = homes_of(function)
        self.ways = ways_by_label(function)
        self.order = defining_order(function)
        self.telling = {block[0]: [op for op in block[2] if op[1] in TELLING] for block in function[3]}
        self.reaching = self.found_reaching()

    def found_reaching(self):
        """For each place to which loads and stores go the triples (label, index, op) of these."""
        found = {}
        for label, _, ops, _ in self.function[3]:
            for index, op in enumerate(ops):
                if op[1] in ("load", "store"):
                    spot = self.pointers.spot(pointer_of(op), op[2][0])
                    found.setdefault(spot, []).append((label, index, op))
        return found


class CellFlow(CellFacts):
    """What is known of the cell of one place in a function the memory of which is known."""

    def __init__(self, memory, place):
        self.memory = memory
        self.pointers = memory.pointers
        self.blocks = memory.blocks
        self.cell = place
        self.hidden = self.pointers.is_private_base(self.pointers.ground(place[0]))
        self.home = memory.homes.get(place[0][1]) if place[0] is not None and place[0][0] == "v" else None

    def telling_ops(self, label):
        """The ops of a block that may change or read cells, or make the root of the place."""
        if self.home is None or self.home[0] != label:
            return self.memory.telling[label]
        return [op for op in self.blocks[label][2] if op[1] in TELLING or makes(op, self.cell[0])]

    def passed(self, label):
        """The content ahead of the end of a reached block, or that it is what it was at the start."""
        content = PASSED
        for op in self.telling_ops(label):
            content = self.behind(content, op)
        return content

    def is_made_in(self, operand, label):
        """Whether an operand is the value of an op of a block."""
        if operand is None or operand[0] != "v":
            return False
        home = self.memory.homes.get(operand[1])
        return home is not None and home[0] == label and home[1] >= 0

    def brought(self, passed, found, label):
        """The contents that the ways from reached blocks bring to a block, as far as they are found."""
        told = {}
        for source, _ in self.memory.ways[label]:
            if source not in passed:
                continue
            if passed[source] != PASSED:
                told[passed[source]] = True
            elif source in found:
                told[None if self.is_made_in(found[source], source) else found[source]] = True
        return list(told)

    def content_met(self, told, label):
        """The content at the start of a block to which ways bring these contents, none of its params."""
        params = self.blocks[label][1]
        if len(told) != 1 or told[0] is None or self.is_root_made_by(params):
            return None
        return None if told[0] in [("v", value) for value, _ in params] else told[0]

    def best_contents(self):
        """For each reached label the content at the start of its block, None where none can be told.

        All are possible at first. What was found once is only given up: so the most that can be told comes out."""
        passed = {label: self.passed(label) for label in self.memory.order}
        found = {entry_of(self.memory.function): None}
        changed = True
        while changed:
            changed = False
            for label in passed:
                told = self.brought(passed, found, label)
                if len(told) == 0 or (label in found and found[label] is None):
                    continue
                content = self.content_met(told, label)
                if label not in found or found[label] != content:
                    found[label] = content
                    changed = True
        return found

    def told_first(self, label):
        """True or False if an op of a block tells whether nobody reads the cell from its start on, None if its end."""
        for op in self.telling_ops(label):
            told = self.unread_by_op(op)
            if told is not None:
                return told
        return None

    def best_unread(self):
        """The labels from which on nobody reads the cell, as keys of a dict: all at first, then ever fewer."""
        told = {label: self.told_first(label) for label in self.blocks}
        kept = {label: True for label in self.blocks if told[label] is not False}
        changed = True
        while changed:
            lost = [label for label in kept if told[label] is None
                    and not self.is_unread_by_end(kept, self.blocks[label][3])]
            for label in lost:
                del kept[label]
            changed = len(lost) > 0
        return kept
