"""Loads and stores that what is known of their cells spares ([64], [65])."""

from anypasses.cellflow import CellFlow, Memory
from anypasses.editing import used_values, with_blocks, without_places, without_value
from anypasses.pointers import global_sizes
from anypasses.swapping import swapped_function


def contents_paper(found):
    """The paper of the contents that are told, by labels."""
    return tuple([(label, found[label]) for label in sorted(found) if found[label] is not None])


def best_contents(function, place):
    """The plain contents paper that holds and tells whatever any of these tells."""
    return contents_paper(CellFlow(Memory(function), place).best_contents())


def best_unread(function, place):
    """The labels from the start of which on a place is unread, as many as can be."""
    return tuple(sorted(CellFlow(Memory(function), place).best_unread()))


def without_op(function, label, index):
    """The function without the op at an index of a block."""
    blocks = []
    for block in function[3]:
        ops = without_places(block[2], (index,)) if block[0] == label else block[2]
        blocks.append((block[0], block[1], ops, block[3]))
    return with_blocks(function, blocks)


class Remembering:
    """A function the loads and stores of which go one after another, and the steps for it.

    `sizes` has the width and the size of each global. A change is the pair of a step and the function behind it."""

    def __init__(self, function, sizes):
        self.name = function[0]
        self.sizes = sizes
        self.steps = []
        self.look_at(function)

    def look_at(self, function):
        """Goes on with this function."""
        self.function = function
        self.memory = Memory(function)
        self.used = used_values(function)

    def load_change(self, value, content, told, is_inside):
        """A change by which a load with this content ahead goes, or None."""
        if content is not None and content != ("v", value):
            less = without_value(self.function, value)
            return (("forward", self.name, value, told), swapped_function(less, {value: content}))
        if is_inside and value not in self.used:
            return (("load_out", self.name, value), without_value(self.function, value))
        return None

    def store_change(self, label, index, reason):
        """The change by which a store goes for a reason."""
        return (("store_out", self.name, label, index, reason), without_op(self.function, label, index))

    def fitting_change(self, place):
        """Some change by which a load from a place, or a store to it, goes; or None."""
        if place not in self.memory.reaching:
            return None
        flow = CellFlow(self.memory, place)
        found = flow.best_contents()
        told = contents_paper(found)
        unread = flow.best_unread()
        is_inside = self.memory.pointers.is_inside(self.sizes, place)
        for label, index, op in self.memory.reaching[place]:
            content = flow.ahead(label, found.get(label), index)
            if op[1] == "load":
                change = self.load_change(op[0], content, told, is_inside)
                if change is not None:
                    return change
            elif content == op[3][0]:
                return self.store_change(label, index, ("same", told))
            elif (is_inside or content is not None) and flow.is_unread(unread, label, index + 1):
                return self.store_change(label, index, ("unread", told, tuple(sorted(unread))))
        return None

    def settle_at(self, place):
        """Makes steps until none fits at a place."""
        change = self.fitting_change(place)
        while change is not None:
            self.steps.append(change[0])
            self.look_at(change[1])
            change = self.fitting_change(place)

    def settle_all(self):
        """Makes steps until none fits at any place."""
        count = -1
        while count < len(self.steps):
            count = len(self.steps)
            for place in list(self.memory.reaching):
                self.settle_at(place)

    def is_settled(self):
        return all([self.fitting_change(place) is None for place in self.memory.reaching])


def remembering_steps(module, function):
    """The steps behind which no load and no store of a function of a module is spared."""
    remembering = Remembering(function, global_sizes(module))
    remembering.settle_all()
    return remembering.steps


def pass_memory(module):
    """Some paper that leads a module to a remembered one."""
    return tuple([step for function in module[1] for step in remembering_steps(module, function)])


def is_remembered(module):
    """Whether no load and no store of a module is spared by what is known best of its place."""
    sizes = global_sizes(module)
    return all([Remembering(function, sizes).is_settled() for function in module[1]])
