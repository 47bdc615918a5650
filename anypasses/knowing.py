"""Numbers that values always are, as far as they can be told ([54])."""

from anypasses.editing import homes_of
from anypasses.errors import InvalidQuestion
from anypasses.kinds import is_number
from anypasses.rangeflow import RangeFlow
from anypasses.rangepapers import entries_row, is_range_paper, told_at
from anypasses.settling import settle
from anypasses.webs import end_labels, entry_of


def single_entries(entries):
    """The entries that tell one number alone."""
    return {value: entries[value] for value in entries if entries[value][0] == entries[value][1]}


def joined_numbers(old, new):
    """The entries that are in both."""
    return {value: old[value] for value in old if new.get(value) == old[value]}


class NumberFlow:
    """What is handed on from block to block; `asked` has for each point what it was asked last, and told then."""

    def __init__(self, function):
        self.flow = RangeFlow(function)
        self.labels = sorted(self.flow.blocks)
        self.asked = {}

    def targets(self):
        """For each point the points to which it hands on."""
        points = {label: at for at, label in enumerate(self.labels)}
        rows = [end_labels(self.flow.blocks[label][3]) for label in self.labels]
        return tuple([tuple([points[label] for label in row]) for row in rows])

    def step(self, point, fact):
        """The entries that a point hands on, None where nothing goes."""
        if point not in self.asked or self.asked[point][0] != fact:
            handed = self.flow.handed(self.labels[point], fact)
            told = [None if entries is None else single_entries(entries) for entries in handed]
            self.asked[point] = (fact, tuple(told))
        return self.asked[point][1]

    def most_rounds(self):
        """So many rounds are enough: each fact can come once, and lose each value once."""
        values = len(self.flow.makers) + sum([len(self.flow.blocks[label][1]) for label in self.labels])
        return len(self.labels) * (values + 2) + 1


def known_numbers(function):
    """The number paper of a function that rounds of handing on and joining tell."""
    flow = NumberFlow(function)
    starts = tuple([{} if label == entry_of(function) else None for label in flow.labels])
    facts = settle(flow.targets(), starts, lambda point, fact: flow.step(point, fact), joined_numbers,
                   flow.most_rounds())
    return tuple([(label, entries_row(fact)) for label, fact in zip(flow.labels, facts) if fact is not None])


def is_number_paper(function, value):
    """Whether any value is a range paper of a function each entry of which tells one number alone."""
    if not is_range_paper(function, value):
        return False
    return all([low == high for _, row in value for _, low, high in row])


def told_number(function, paper, value):
    """The number that any value, a range paper, tells of any value that a block makes, where it is made; or None."""
    if not is_range_paper(function, paper):
        raise InvalidQuestion(0)
    homes = homes_of(function)
    if not is_number(value) or value not in homes:
        raise InvalidQuestion(1)
    label, index = homes[value]
    told = told_at(function, paper, (label, index + 1), value)
    return told[0] if told is not None and told[0] == told[1] else None
