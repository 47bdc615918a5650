"""Calls, functions and globals that nobody needs ([45], [73])."""

from anypasses.call_steps import global_operands
from anypasses.calling import called_names
from anypasses.editing import used_counts, with_blocks
from anypasses.orders import defining_order
from anypasses.ways import reached_from


def called_from_main(module):
    """The names of the functions that `main` calls, directly or by others, and its own, as keys of a dict."""
    web = {function[0]: list(called_names(function)) for function in module[1]}
    return reached_from(web, "main")


def unused_functions(module):
    """The names of the functions that `main` calls in no way."""
    known = called_from_main(module)
    return tuple([function[0] for function in module[1] if function[0] not in known])


def unused_globals(module):
    """The names of the globals that no function uses."""
    used = {name: True for function in module[1] for name in global_operands(function)}
    return tuple([place[0] for place in module[0] if place[0] not in used])


def label_rows(function):
    """The labels of a function: those that are reached first, the last ones, which use what others make, ahead."""
    order = defining_order(function)[::-1]
    known = {label: True for label in order}
    return order + [block[0] for block in function[3] if block[0] not in known]


class CallsOut:
    """A function of which calls of quiet functions go the values of which nobody uses; `steps` tells which."""

    def __init__(self, function, quiet):
        self.function = function
        self.quiet = quiet
        self.counts = used_counts(function)
        self.rows = {block[0]: block[2] for block in function[3]}
        self.steps = []

    def is_needless(self, op):
        return op[1] == "call" and op[2][0] in self.quiet and self.counts.get(op[0], 0) == 0

    def forget(self, op):
        """Counts what an op uses as used no more by it."""
        for word, thing in op[3]:
            if word == "v":
                self.counts[thing] = self.counts[thing] - 1

    def go_over(self, label):
        """Takes the needless calls out of a block, the last one first."""
        kept = []
        for index, op in list(enumerate(self.rows[label]))[::-1]:
            if self.is_needless(op):
                self.steps.append(("call_out", self.function[0], label, index))
                self.forget(op)
            else:
                kept.append(op)
        self.rows[label] = kept[::-1]

    def go_over_all(self):
        """Takes out needless calls until there are none; a call that goes may make others needless."""
        count = -1
        while count < len(self.steps):
            count = len(self.steps)
            for label in label_rows(self.function):
                self.go_over(label)

    def cleared(self):
        """The function as it is by now."""
        blocks = [(block[0], block[1], tuple(self.rows[block[0]]), block[3]) for block in self.function[3]]
        return with_blocks(self.function, blocks)
