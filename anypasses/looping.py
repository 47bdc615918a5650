"""The loops of a function, and the ways into their heads ([25], [35])."""

from anypasses.editing import ways_by_label
from anypasses.loops import loops_of


class Loops:
    """The labels of the loop of each head, as keys of a dict, and the ways into each block."""

    def __init__(self, function):
        self.labels = {head: {label: True for label in labels} for head, labels in loops_of(function)}
        self.ways = ways_by_label(function)

    def outer_ways(self, head):
        """The ways into a head from blocks that are not in its loop."""
        return tuple([way for way in self.ways[head] if way[0] not in self.labels[head]])

    def inner_ways(self, head):
        """The ways into a head from blocks of its loop."""
        return tuple([way for way in self.ways[head] if way[0] in self.labels[head]])

    def heads_at(self, label):
        """The heads of the loops that have a label, that of the largest one first."""
        there = [(len(self.labels[head]), head) for head in self.labels if label in self.labels[head]]
        return [head for _, head in sorted(there, reverse=True)]
