"""What is known of the cell of a place, ahead of ops and behind them ([40], [41])."""

from anypasses.editing import blocks_by_label
from anypasses.pointers import Pointers, pointer_of
from anypasses.shapes import end_targets


def makes(op, operand):
    """Whether an op makes what an operand, or None, is."""
    return op[0] is not None and operand == ("v", op[0])


class CellFacts:
    """The pointers and the blocks of a function, asked about one place."""

    def __init__(self, function, place):
        self.pointers = Pointers(function)
        self.blocks = blocks_by_label(function)
        self.cell = place
        self.hidden = self.pointers.is_private_base(self.pointers.ground(place[0]))

    def reaches(self, op):
        """The place to which a load or a store goes."""
        return self.pointers.spot(pointer_of(op), op[2][0])

    def may_be_reached(self, op):
        """Whether a load or a store may go to the cell."""
        return not self.pointers.are_apart(self.cell, self.reaches(op))

    def behind(self, content, op):
        """The content behind an op, from the one ahead of it."""
        root = self.cell[0]
        if makes(op, root):
            return ("n", 0) if op[1] == "alloca" and self.pointers.is_inside({}, self.cell) else None
        if op[1] == "load" and self.reaches(op) == self.cell:
            return ("v", op[0])
        if op[1] == "store" and self.reaches(op) == self.cell:
            return op[3][0]
        if op[1] == "store" and self.may_be_reached(op):
            return None
        if (op[1] == "call" and not self.hidden) or makes(op, content):
            return None
        return content

    def ahead(self, label, content, index):
        """The content ahead of an index of a block, from the one at its start."""
        for op in self.blocks[label][2][:index]:
            content = self.behind(content, op)
        return content

    def ahead_of_end(self, label, content):
        return self.ahead(label, content, len(self.blocks[label][2]))

    def is_root_made_by(self, params):
        """Whether the root is one of these params."""
        return any([self.cell[0] == ("v", value) for value, _ in params])

    def is_unread_by_end(self, labels, end):
        """Whether nobody reads the cell behind an end, if nobody does so from the start of these blocks on."""
        if end[0] == "stop":
            return True
        if end[0] == "return":
            return self.pointers.is_alloca(self.pointers.ground(self.cell[0]))
        for label, _ in end_targets(end):
            if label not in labels or self.is_root_made_by(self.blocks[label][1]):
                return False
        return True

    def unread_by_op(self, op):
        """True if nobody reads the cell behind an op, False if somebody may, None if this is not told by the op."""
        if op[1] == "store" and self.reaches(op) == self.cell:
            return True
        if makes(op, self.cell[0]):
            return op[1] == "alloca" and op[0] in self.pointers.privates
        if op[1] == "load" and self.may_be_reached(op):
            return False
        return False if op[1] == "call" and not self.hidden else None

    def is_unread(self, labels, label, index):
        """Whether nobody reads the cell from an index of a block on, if so from the start of these blocks on."""
        _, _, ops, end = self.blocks[label]
        for op in ops[index:]:
            told = self.unread_by_op(op)
            if told is not None:
                return told
        return self.is_unread_by_end(labels, end)
