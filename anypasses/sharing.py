"""Equal ops, and params that are always handed one operand, made one ([60], [61])."""

from anypasses.combining import combined_function, is_combined
from anypasses.dominating import Dominators
from anypasses.editing import blocks_by_label, homes_of, used_counts, ways_by_label
from anypasses.orders import defining_order
from anypasses.pureness import is_pure
from anypasses.renewing import Renewal
from anypasses.shapes import end_targets


def uses_by_others(function):
    """For each value how often it is an operand, but where a target hands a block's param to itself."""
    counts = used_counts(function)
    blocks = blocks_by_label(function)
    for block in function[3]:
        for label, args in end_targets(block[3]):
            for (value, _), arg in zip(blocks[label][1], args):
                if arg == ("v", value):
                    counts[value] = counts[value] - 1
    return counts


class Sharing(Renewal):
    """A function in which alike ops, and params with what they are handed, are made one in a sweep.

    `made` has the label and the value of each op that was kept, by its kind, info and args."""

    def __init__(self, function):
        Renewal.__init__(self, function)
        self.known = Dominators(function)
        self.blocks = blocks_by_label(function)
        self.homes = homes_of(function)
        self.ways = ways_by_label(function)
        self.counts = uses_by_others(function)
        self.made = {}

    def stands_at_start(self, operand, label):
        """Whether an operand stands at the start of a reached block, as none of its params."""
        if operand[0] != "v" or operand[1] not in self.homes:
            return True
        home = self.homes[operand[1]][0]
        return home != label and self.known.is_above(home, label)

    def handed(self, label, at, value):
        """The operands other than itself that the param at this index of a block is handed."""
        told = {}
        for source, k in self.ways[label]:
            operand = self.now(end_targets(self.blocks[source][3])[k][1][at])
            if operand != ("v", value):
                told[operand] = True
        return list(told)

    def share_params(self, label):
        """Puts in what the params of a block are handed, where this is one operand."""
        for at, (value, _) in enumerate(self.blocks[label][1]):
            told = self.handed(label, at, value)
            if self.counts.get(value, 0) > 0 and len(told) == 1 and self.stands_at_start(told[0], label):
                self.put(value, told[0], ("block_param",))

    def alike(self, label, op):
        """Some value that an alike op made that stands at the end of this block, or None."""
        for other, value in self.made.get(op[1:], []):
            if self.known.is_above(other, label):
                return value
        return None

    def share_ops(self, label):
        """The ops of a block that are kept."""
        kept = []
        for op in self.blocks[label][2]:
            new = self.op_now(op)
            value = self.alike(label, new) if is_pure(new) else None
            if value is not None:
                self.renew(new[0], ("v", value), ("same", value))
                continue
            kept.append(new)
            if is_pure(new):
                self.made.setdefault(new[1:], []).append((label, new[0]))
        return kept

    def shared(self):
        """The function behind a sweep through its reached blocks."""
        rows = {}
        for label in defining_order(self.function):
            self.share_params(label)
            rows[label] = self.share_ops(label)
        return self.renewed(rows)


def shared_function(function):
    """The pair of a function when it is shared, and the steps that lead to it."""
    steps = []
    count = -1
    while count < len(steps):
        count = len(steps)
        sharing = Sharing(function)
        function = sharing.shared()
        steps.extend(sharing.steps)
    return function, steps


def is_function_shared(function):
    sharing = Sharing(function)
    sharing.shared()
    return len(sharing.steps) == 0


def is_shared(module):
    """Whether no two alike ops of a module might be one, nor any param and what it is handed."""
    return all([is_function_shared(function) for function in module[1]])


def pass_values(module):
    """Some paper that leads a module to a shared one."""
    return tuple([step for function in module[1] for step in shared_function(function)[1]])


def is_tidy(module):
    """Whether a module is combined and shared."""
    return is_combined(module) and is_shared(module)


def gone_through(module, change):
    """The pair of a module and a paper, `change(function)` telling a function and its steps for each function."""
    told = [change(function) for function in module[1]]
    later = (module[0], tuple([function for function, _ in told]))
    return later, tuple([step for _, steps in told for step in steps])


def pass_tidy(module):
    """Some paper that leads a module to one that is combined and shared."""
    paper = ()
    while not is_tidy(module):
        module, more = gone_through(module, combined_function)
        paper = paper + more
        module, more = gone_through(module, shared_function)
        paper = paper + more
    return paper
