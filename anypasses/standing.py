"""Which values stand at a place, and the ways that show where one does not ([14]).

Nothing is asked of a function here but its form: labels and values may be doubled, targets may lead nowhere."""

from anypasses.errors import InvalidQuestion
from anypasses.kinds import is_number
from anypasses.shapes import block_values, defined_values, end_targets, first_blocks
from anypasses.ways import short_way


class Standing:
    """For each block of a function which values stand at its beginning, sets of values being held as bits of a number.

    Bits make it cheap to meet the sets of some thousand values at each of the ways into a block."""

    def __init__(self, function):
        values = sorted(set(defined_values(function)))
        self.bits = {value: 1 << at for at, value in enumerate(values)}
        self.all_bits = (1 << len(values)) - 1
        # A function's params are its least values, so theirs are the lowest bits.
        self.param_bits = (1 << len(function[1])) - 1
        self.starts = [self.all_bits if told is None else told for told in self.passed_bits(function)]

    def bits_of(self, values):
        """The bits of some values, among which None counts for nothing."""
        told = 0
        for value in values:
            if value is not None:
                told = told | self.bits[value]
        return told

    def values_in(self, told):
        """The values, ascending, the bits of which are told."""
        return tuple([value for value in self.bits if told & self.bits[value] != 0])

    def passed_bits(self, function):
        """For each block the bits of what each way to it passes ahead of it; None where no way leads."""
        blocks = function[3]
        first = first_blocks(function)
        made = [self.bits_of(block_values(block)) for block in blocks]
        heads = [[first[label] for label, _ in end_targets(block[3]) if label in first] for block in blocks]
        passed = [None for _ in blocks]
        passed[0] = self.param_bits
        changed = True
        while changed:
            changed = False
            for at, told in enumerate(made):
                if passed[at] is None:
                    continue
                behind = passed[at] | told
                for head in heads[at]:
                    met = behind if passed[head] is None else passed[head] & behind
                    if met != passed[head]:
                        passed[head] = met
                        changed = True
        return passed

    def bits_at(self, function, at, place):
        """The bits of the values that stand at a place of the block with this index."""
        block = function[3][at]
        return self.starts[at] | self.bits_of(block_values(block)[:len(block[1]) + place])


def standing(function):
    """For each block the values that stand at its place 0."""
    known = Standing(function)
    return tuple([known.values_in(known.bits_at(function, at, 0)) for at, _ in enumerate(function[3])])


def asked_block(function, label, place):
    """The index of the block that a label means; refuses what is no label, and what is no place there."""
    first = first_blocks(function)
    if not is_number(label) or label not in first:
        raise InvalidQuestion(1)
    if not is_number(place) or place > len(function[3][first[label]][2]):
        raise InvalidQuestion(2)
    return first[label]


def stands_at(function, label, place):
    """The values that stand at a place of a block."""
    at = asked_block(function, label, place)
    known = Standing(function)
    return known.values_in(known.bits_at(function, at, place))


def borne_labels(function, first, label):
    """The labels, borne by blocks, of the targets of the block that a label means."""
    targets = end_targets(function[3][first[label]][3])
    return [other for other, _ in targets if other in first]


def defines_ahead(block, place, value):
    """Whether a block defines a value as a param, or by an op ahead of a place."""
    return value in block_values(block)[:len(block[1]) + place]


def missed_way(function, label, place, value):
    """None if a value stands at a place of a block, otherwise some way there that passes no definition of it."""
    at = asked_block(function, label, place)
    blocks = function[3]
    if value < len(function[1]) or defines_ahead(blocks[at], place, value):
        return None
    first = first_blocks(function)
    web = {other: borne_labels(function, first, other) for other in first}
    for other in first:
        if value in block_values(blocks[first[other]]):
            web[other] = []
    return short_way(web, blocks[0][0], label)


def is_label_row(function, first, way):
    """Whether any value is a way of the function without a label twice."""
    if not isinstance(way, tuple) or len(way) == 0:
        return False
    if not all([is_number(label) and label in first for label in way]):
        return False
    if way[0] != function[3][0][0] or len(set(way)) != len(way):
        return False
    return all([other in borne_labels(function, first, one) for one, other in zip(way, way[1:])])


def is_missed_way(function, label, place, value, way):
    """Whether a value does not stand at a place of a block, and any value, the way, is one that shows it."""
    at = asked_block(function, label, place)
    first = first_blocks(function)
    if value < len(function[1]) or not is_label_row(function, first, way) or way[-1] != label:
        return False
    blocks = function[3]
    if defines_ahead(blocks[at], place, value):
        return False
    return all([value not in block_values(blocks[first[other]]) for other in way[:-1]])
