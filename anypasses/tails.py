"""Calls of its own function with which a function ends, at once or behind a jump ([43], [71])."""

from anypasses.calling import is_call_of
from anypasses.editing import blocks_by_label, is_wanted_elsewhere, used_counts
from anypasses.inlining import is_tail_call
from anypasses.webs import reached_labels


class Tails:
    """A function, asked for its blocks with tail calls."""

    def __init__(self, function):
        self.function = function
        self.blocks = blocks_by_label(function)
        self.counts = used_counts(function)

    def early_labels(self):
        """The labels of blocks with a tail call that is returned at once."""
        return [block[0] for block in self.function[3] if is_tail_call(self.function, block, self.counts)]

    def late_labels(self):
        """The labels of blocks with a late tail call."""
        reached = {label: True for label in reached_labels(self.function)}
        return [block[0] for block in self.function[3] if block[0] in reached and self.is_late(block)]

    def is_late(self, block):
        """Whether the last op of a reached block calls its function, and what it tells is returned behind a jump."""
        _, _, ops, end = block
        if len(ops) == 0 or not is_call_of(ops[-1], self.function[0]) or end[0] != "jump":
            return False
        goal = self.blocks[end[1][0]]
        if len(goal[2]) > 0 or goal[3][0] != "return" or is_wanted_elsewhere(self.function, goal):
            return False
        value = ops[-1][0]
        return value is None or self.is_handed_back(value, goal, end[1][1])

    def is_handed_back(self, value, goal, args):
        """Whether a block returns the param for which a jump hands a value on, and nothing else uses this value."""
        handed = [param for (param, _), arg in zip(goal[1], args) if arg == ("v", value)]
        used = len([arg for arg in args if arg == ("v", value)])
        return self.counts.get(value, 0) == used and goal[3][1] in [("v", param) for param in handed]
