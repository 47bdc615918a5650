"""Steps by which numbers come in the place of values, and branches and blocks go, made on one function ([55], [57])."""

from anypasses.editing import blocks_by_label, makers_of, used_values
from anypasses.fewerblocks import dropped, picked
from anypasses.orders import all_ops, defining_order
from anypasses.pureness import folded
from anypasses.rangeflow import go_past
from anypasses.rangepapers import entries_dict
from anypasses.swapping import swapped_function, swapped_op


def told_singles(function, paper):
    """The pairs of a value and the only number that a range paper tells of it where it is made, as they are made."""
    blocks = blocks_by_label(function)
    rows = dict(paper)
    told = []
    for label in defining_order(function):
        if label not in rows:
            continue
        entries = entries_dict(rows[label])
        made = [value for value, _ in blocks[label][1]]
        told.extend([(value, entries[value]) for value in made if value in entries])
        for op in blocks[label][2]:
            go_past(entries, op)
            if op[0] in entries:
                told.append((op[0], entries[op[0]]))
    return [(value, low) for value, (low, high) in told if low == high]


class NumberSteps:
    """A function and the steps that were made on it."""

    def __init__(self, function):
        self.function = function
        self.name = function[0]
        self.steps = []

    def make(self, step, later):
        """Makes a step that leads to this function, if there is one."""
        if later is not None:
            self.steps.append(step)
            self.function = later

    def drop(self):
        """Drops the blocks that are not reached."""
        self.make(("drop", self.name), dropped(self.function))

    def pick(self):
        """Picks all branches that are known."""
        blocks = self.function[3]
        for block in blocks:
            self.make(("pick", self.name, block[0]), picked(self.function, block))

    def put_numbers(self, swaps, reasons):
        """Puts numbers in the place of values for these reasons."""
        for value in swaps:
            self.steps.append(("use", self.name, value, swaps[value], reasons[value]))
        self.function = swapped_function(self.function, swaps)

    def fold(self):
        """Puts in what folded ops tell, also those that can be folded only then."""
        used = used_values(self.function)
        swaps = {}
        count = -1
        while count < len(swaps):
            count = len(swaps)
            for op in all_ops(self.function):
                if op[0] in used and op[0] not in swaps:
                    number = folded(swapped_op(op, swaps))
                    if number is not None:
                        swaps[op[0]] = ("n", number)
        self.put_numbers(swaps, {value: ("fold",) for value in swaps})

    def use_told(self, paper):
        """Puts in the numbers that a range paper tells; it stays one while they are put in one after another.

        To fold is cheaper to judge, and comes to the same where the args are numbers by then."""
        used = used_values(self.function)
        makers = makers_of(self.function)
        swaps = {}
        reasons = {}
        for value, number in told_singles(self.function, paper):
            if value in used:
                is_folded = value in makers and folded(swapped_op(makers[value], swaps)) == number
                swaps[value] = ("n", number)
                reasons[value] = ("fold",) if is_folded else ("range", paper)
        self.put_numbers(swaps, reasons)


def rounds_made(function, go_round):
    """The steps that rounds make on a function until one makes none."""
    maker = NumberSteps(function)
    count = -1
    while count < len(maker.steps):
        count = len(maker.steps)
        go_round(maker)
    return maker.steps


def first_step(module, go_round):
    """The first step that a round makes on some function of a module, or None."""
    for function in module[1]:
        maker = NumberSteps(function)
        go_round(maker)
        if len(maker.steps) > 0:
            return maker.steps[0]
    return None
