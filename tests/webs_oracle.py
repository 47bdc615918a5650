"""What dominates, where ways meet and what loops have, found by the words of the document."""

NO_LABELS = (None, True, False, -1, 0, 3, 5, "1", "b1", 1.0, (1,), [1], {1: 1}, b"1")


def function_of(heads):
    """A function with these targets of each block, the first block ahead."""
    blocks = []
    for label, labels in heads.items():
        targets = tuple((other, ()) for other in labels)
        end = (("stop",), ("jump",) + targets, ("branch", ("n", 1)) + targets)[len(labels)]
        blocks.append((label, (), (), end))
    return ("f", (), None, tuple(blocks))


class Web:
    def __init__(self, function):
        blocks = function[3]
        self.entry = blocks[0][0]
        self.labels = [block[0] for block in blocks]
        self.heads = {block[0]: [target[0] for target in block[3][1:] if type(target) is tuple and type(target[1]) is tuple]
                      for block in blocks}
        self.reached = set(self.distances(None))

    def distances(self, barred, start=None):
        """How many steps it takes from the entry, or another label, to each label without a barred one."""
        found = {}
        row, steps = [self.entry if start is None else start], 0
        while row:
            row = [label for label in row if label != barred and label not in found]
            found.update(dict.fromkeys(row, steps))
            row, steps = [head for label in row for head in self.heads[label]], steps + 1
        return found

    def dominates(self, one, other):
        return other not in self.distances(one)

    def is_standing_tree(self, tree):
        """The definition, for an ascending tuple of pairs of the right labels and any parents."""
        parents = dict(tree)
        if any(parent not in self.reached for parent in parents.values()):
            return False

        def stands_above(label):
            found = []
            while label in parents and parents[label] not in found:
                label = parents[label]
                found.append(label)
            return found

        return all(parents[head] == label or parents[head] in stands_above(label)
                   for label in self.reached for head in self.heads[label])

    def frontier(self, label):
        if label not in self.reached:
            return set()
        return {head for head in self.reached
                if any(head in self.heads[source] and self.dominates(label, source) for source in self.reached)
                and (head == label or not self.dominates(label, head))}

    def turns(self):
        return {(label, head) for label in self.reached for head in self.heads[label] if self.dominates(head, label)}

    def loop(self, head):
        firsts = [label for label, other in self.turns() if other == head]
        inner = {label for label in self.reached if label != head
                 and any(first in self.distances(head, start=label) for first in firsts)}
        return inner | {head}
