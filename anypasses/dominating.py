"""Which labels are on all ways to others ([23])."""

from anypasses.kinds import is_number, is_pair
from anypasses.ways import reached_from, short_way, turned_web, web_without
from anypasses.webs import check_label, entry_of, web_of


class Dominators:
    """For each reached label of a function the labels that dominate it, as bits of a number.

    `web` has the reached labels alone, so that what is not reached does not count as a source."""

    def __init__(self, function):
        whole = web_of(function)
        entry = entry_of(function)
        self.web = {label: whole[label] for label in reached_from(whole, entry)}
        self.labels = sorted(self.web)
        self.bits = {label: 1 << at for at, label in enumerate(self.labels)}
        self.sources = turned_web(self.web)
        self.above = self.met_bits(entry)

    def met_bits(self, entry):
        """The dominators of each label: first all, then rounds of what all its sources have, and itself."""
        everything = (1 << len(self.labels)) - 1
        above = {label: everything for label in self.labels}
        above[entry] = self.bits[entry]
        changed = True
        while changed:
            changed = False
            for label in self.web:
                if label == entry:
                    continue
                met = everything
                for source in self.sources[label]:
                    met = met & above[source]
                met = met | self.bits[label]
                if met != above[label]:
                    above[label] = met
                    changed = True
        return above

    def is_above(self, one, other):
        """Whether a reached label dominates another one."""
        return self.above[other] & self.bits[one] != 0

    def parents(self):
        """For each reached label but the entry its parent: the one that has all its dominators but itself."""
        owners = {self.above[label]: label for label in self.labels}
        told = {}
        for label in self.labels:
            rest = self.above[label] - self.bits[label]
            if rest != 0:
                told[label] = owners[rest]
        return told


def dominates(function, one, other):
    """Whether a label is on each way from the entry to another one."""
    return way_around(function, one, other) is None


def way_around(function, one, other):
    """Some way from the entry to a label that does not have another one on it, as short as any, or None."""
    check_label(function, one, 0)
    check_label(function, other, 1)
    entry = entry_of(function)
    if one == entry:
        return None
    return short_way(web_without(web_of(function), one), entry, other)


def tree_of(function):
    """For each reached label but the entry its parent."""
    parents = Dominators(function).parents()
    return tuple([(label, parents[label]) for label in parents])


def above_in(parents, label):
    """The labels that stand above a label, as keys of a dict, also where the parents go round in a ring."""
    found = {}
    while label in parents and parents[label] not in found:
        label = parents[label]
        found[label] = True
    return found


def is_parent_row(value, labels, entry):
    """Whether any value is an ascending tuple of pairs of each of these labels but the entry, and one of them."""
    if not isinstance(value, tuple) or not all([is_pair(pair) for pair in value]):
        return False
    if not all([is_number(label) and is_number(parent) and parent in labels for label, parent in value]):
        return False
    return [label for label, _ in value] == [label for label in sorted(labels) if label != entry]


def is_standing_tree(function, value):
    """Whether any value is a standing tree of a function."""
    web = web_of(function)
    reached = reached_from(web, entry_of(function))
    if not is_parent_row(value, reached, entry_of(function)):
        return False
    parents = dict(value)
    for label in reached:
        above = above_in(parents, label)
        if not all([parents[head] == label or parents[head] in above for head in web[label]]):
            return False
    return True
