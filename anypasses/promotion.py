"""Allocas that become values and params of blocks ([62], [63])."""

from anypasses.editing import ways_by_label
from anypasses.errors import InvalidQuestion
from anypasses.fewerblocks import dropped
from anypasses.orders import all_ops
from anypasses.pointers import Pointers, pointer_of
from anypasses.promoting import Promotion, cell_offsets, has_promotion_form
from anypasses.renewing import FreshValues
from anypasses.webs import entry_of, reached_labels


def handed_contents(promotion, ways, cell):
    """The operands that ways hand on as the content of a cell."""
    return [promotion.meant(promotion.ends[source][cell]) for source, _ in ways]


def asked_promotion(function, value, paper):
    """The promotion by any value, a paper with which the step can be made."""
    offsets = cell_offsets(function, value)
    if not has_promotion_form(function, len(offsets), paper):
        raise InvalidQuestion(2)
    promotion = Promotion(function, value, offsets, paper)
    if not promotion.fits():
        raise InvalidQuestion(2)
    return promotion


def spare_entries(function, value, paper):
    """The pairs (label, index) of the new params of any value, a paper, that are handed one operand alone."""
    promotion = asked_promotion(function, value, paper)
    ways = ways_by_label(function)
    found = []
    for label, row in paper:
        for cell, entry in enumerate(row):
            told = {operand for operand in handed_contents(promotion, ways[label], cell)}
            if entry[0] == "new" and len(told) - (1 if ("v", entry[1]) in told else 0) == 1:
                found.append((label, cell))
    return tuple(found)


def full_paper(function, count):
    """The paper with a new param for each of so many cells at each block but the entry."""
    fresh = FreshValues(function)
    labels = sorted([block[0] for block in function[3] if block[0] != entry_of(function)])
    return tuple([(label, tuple([("new", fresh.take()) for _ in range(count)])) for label in labels])


class Sparing:
    """The new params of a full paper, of which those that are spare become what they are handed.

    `offers` has for each new param the operands that ways hand on for it, `users` the new params for which it is handed
    on itself, `kept` what stands in the place of those that are gone; that may be gone since then itself."""

    def __init__(self, function, value, offsets):
        self.full = full_paper(function, len(offsets))
        self.promotion = Promotion(function, value, offsets, self.full)
        self.offers = {}
        self.users = {}
        self.kept = {}
        ways = ways_by_label(function)
        for label, row in self.full:
            for cell, (_, new) in enumerate(row):
                self.offers[new] = handed_contents(self.promotion, ways[label], cell)
                self.users[new] = []
        for new in self.offers:
            for word, thing in self.offers[new]:
                if word == "v" and thing in self.users:
                    self.users[thing].append(new)

    def now(self, operand):
        """What stands in the place of an operand by now; what is found is kept, so that no long row is gone twice."""
        last = operand
        while last[0] == "v" and last[1] in self.kept:
            last = self.kept[last[1]]
        if last != operand:
            self.kept[operand[1]] = last
        return last

    def only_handed(self, new):
        """The only operand but itself that a new param is handed, or None."""
        told = {self.now(operand): True for operand in self.offers[new]}
        others = [operand for operand in told if operand != ("v", new)]
        return others[0] if len(others) == 1 else None

    def spare(self):
        """Puts in what new params are handed until none is spare; a param that goes may make its users spare."""
        waiting = list(self.offers)[::-1]
        while len(waiting) > 0:
            new = waiting.pop()
            told = None if new in self.kept else self.only_handed(new)
            if told is None:
                continue
            self.kept[new] = told
            waiting.extend(self.users[new])
            if told[0] == "v" and told[1] in self.users:
                self.users[told[1]].extend(list(self.users[new]))

    def entry(self, new):
        return self.now(("v", new)) if new in self.kept else ("new", new)

    def spared_paper(self):
        """The paper without spare entries."""
        self.spare()
        return tuple([(label, tuple([self.entry(new) for _, new in row])) for label, row in self.full])


def promotion_paper(function, value):
    """Some paper without a spare entry with which a value's alloca can be promoted."""
    return Sparing(function, value, cell_offsets(function, value)).spared_paper()


def promotable_cells(function):
    """For each value that has told cells these cells, all of them found by going once through the function."""
    pointers = Pointers(function)
    offsets = {("v", value): {} for value in pointers.privates}
    outer = {}
    for op in all_ops(function):
        if op[1] not in ("load", "store"):
            continue
        spot = pointers.spot(pointer_of(op), op[2][0])
        if spot[0] in offsets:
            offsets[spot[0]][spot[1]] = True
            if not pointers.is_inside({}, spot):
                outer[spot[0]] = True
    return {root[1]: tuple(sorted(offsets[root])) for root in offsets if root not in outer}


def promoted_function(function):
    """The pair of a function all allocas of which that can be are promoted, and the steps that lead to it."""
    steps = []
    less = dropped(function)
    if less is not None:
        steps.append(("drop", function[0]))
        function = less
    cells = promotable_cells(function)
    while len(cells) > 0:
        for value in sorted(cells):
            paper = Sparing(function, value, cells[value]).spared_paper()
            steps.append(("promote", function[0], value, paper))
            # The cells of the others stay as they are, and so do their loads and stores.
            function = Promotion(function, value, cells[value], paper).promoted()
        cells = promotable_cells(function)
    return function, steps


def pass_promote(module):
    """Some paper that leads a module to a promoted one."""
    return tuple([step for function in module[1] for step in promoted_function(function)[1]])


def is_promoted(module):
    """Whether all blocks of a module are reached, and no value has told cells."""
    for function in module[1]:
        if len(reached_labels(function)) < len(function[3]) or len(promotable_cells(function)) > 0:
            return False
    return True
