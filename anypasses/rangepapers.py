"""Papers that tell in which range each value is at the start of each block ([29])."""

from anypasses.errors import InvalidQuestion
from anypasses.kinds import are_ascending, is_number, is_pair
from anypasses.rangeflow import RangeFlow
from anypasses.settling import settle
from anypasses.shapes import end_targets
from anypasses.webs import end_labels, entry_of

# Of a value the low can go down, the high up, at most once for each of 65 powers, and the entry can be lost.
MOST_CHANGES = 2 * 65 + 1


def lower(low):
    """The greatest of 0 and all powers of two that is at most this number."""
    return 0 if low == 0 else 1 << (low.bit_length() - 1)


def upper(high):
    """The least number 2 ** k - 1 that is at least this one."""
    return (1 << high.bit_length()) - 1


def joined_range(old, new):
    """The old range, grown by much where the new one is not within it, so that it cannot grow often."""
    low = old[0] if new[0] >= old[0] else lower(new[0])
    high = old[1] if new[1] <= old[1] else upper(new[1])
    return (low, high)


def joined_entries(old, new):
    return {value: old[value] if old[value] == new[value] else joined_range(old[value], new[value])
            for value in old if value in new}


def entries_row(entries):
    """A dict of entries as a tuple of triples."""
    return tuple([(value, entries[value][0], entries[value][1]) for value in sorted(entries)])


def entries_dict(row):
    """A tuple of triples as a dict of entries."""
    return {value: (low, high) for value, low, high in row}


class RangeRounds:
    """What is handed on and joined in the rounds that settle range papers.

    A fact is a pair of a number of its own and of entries, so that what is known of a fact that did not change need not
    be found again: `asked` has for each label the fact that was asked last, and what it handed on; `held` has the
    pairs of numbers of facts the second of which was within the first one."""

    def __init__(self, function):
        self.flow = RangeFlow(function)
        self.labels = sorted(self.flow.blocks)
        self.made = 0
        self.asked = {}
        self.held = {}

    def fact(self, entries):
        self.made += 1
        return (self.made, entries)

    def step(self, point, fact):
        """The facts that a point hands on, None where nothing goes."""
        label = self.labels[point]
        if label not in self.asked or self.asked[label][0] != fact[0]:
            told = self.flow.handed(label, fact[1])
            self.asked[label] = (fact[0], tuple([None if entries is None else self.fact(entries) for entries in told]))
        return self.asked[label][1]

    def join(self, old, new):
        """The old fact itself, if the new one is within it."""
        if (old[0], new[0]) in self.held:
            return old
        entries = joined_entries(old[1], new[1])
        if entries != old[1]:
            return self.fact(entries)
        self.held[(old[0], new[0])] = True
        return old

    def most_rounds(self):
        """So many rounds are enough."""
        values = len(self.flow.makers) + sum([len(self.flow.blocks[label][1]) for label in self.labels])
        return len(self.labels) * (values * MOST_CHANGES + 1) + 1


def known_ranges(function):
    """The range paper of a function that rounds of handing on and joining tell."""
    rounds = RangeRounds(function)
    labels = rounds.labels
    points = {label: at for at, label in enumerate(labels)}
    targets = tuple([tuple([points[other] for other in end_labels(rounds.flow.blocks[label][3])]) for label in labels])
    starts = tuple([rounds.fact({}) if label == entry_of(function) else None for label in labels])
    facts = settle(
        targets, starts, lambda point, fact: rounds.step(point, fact), lambda old, new: rounds.join(old, new),
        rounds.most_rounds())
    return tuple([(label, entries_row(fact[1])) for label, fact in zip(labels, facts) if fact is not None])


def is_entry(value):
    """Whether any value is a triple of numbers, the second of which is at most the third."""
    if not isinstance(value, tuple) or len(value) != 3:
        return False
    return all([is_number(number) for number in value]) and value[1] <= value[2]


def are_entries(value):
    """Whether any value is a tuple of entries of unlike values, ascending."""
    if not isinstance(value, tuple) or not all([is_entry(entry) for entry in value]):
        return False
    return are_ascending([entry[0] for entry in value])


def has_range_form(blocks, value):
    """Whether any value has pairs of labels of these blocks, ascending, and entries."""
    if not isinstance(value, tuple) or not all([is_pair(pair) for pair in value]):
        return False
    if not all([is_number(label) and label in blocks and are_entries(row) for label, row in value]):
        return False
    return are_ascending([label for label, _ in value])


def are_within(handed, told):
    """Whether each told range has that of the same value which is handed on."""
    for value in told:
        if value not in handed:
            return False
        if handed[value][0] < told[value][0] or handed[value][1] > told[value][1]:
            return False
    return True


def is_standing_paper(flow, entry, rows):
    """Whether the entries of each label have all that is handed to it; `rows` has them as dicts by labels."""
    if entry not in rows or len(rows[entry]) > 0:
        return False
    for label in rows:
        targets = end_targets(flow.blocks[label][3])
        for (other, _), handed in zip(targets, flow.handed(label, rows[label])):
            if handed is not None and (other not in rows or not are_within(handed, rows[other])):
                return False
    return True


def is_range_paper(function, value):
    """Whether any value is a range paper of a function."""
    flow = RangeFlow(function)
    if not has_range_form(flow.blocks, value):
        return False
    return is_standing_paper(flow, entry_of(function), {label: entries_dict(row) for label, row in value})


def told_at(function, paper, site, value):
    """The pair (low, high) that a range paper tells of a value at a site, or None."""
    rows = dict(paper)
    label, index = site
    if label not in rows:
        return None
    return RangeFlow(function).ahead_of(label, entries_dict(rows[label]), index).get(value)


def range_at(function, paper, site, value):
    """The pair (low, high) that any value, a range paper, tells of a value at a site, or None."""
    if not is_range_paper(function, paper):
        raise InvalidQuestion(0)
    return told_at(function, paper, site, value)
