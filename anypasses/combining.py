"""Ops combined by rules, until no rule is left for any ([59])."""

from anypasses.editing import blocks_by_label
from anypasses.orders import defining_order
from anypasses.pureness import folded, is_pure
from anypasses.renewing import FreshValues, Renewal
from anypasses.rewriting import Rewriter
from anypasses.weights import reached_ops


class Combination(Renewal):
    """A function the pure ops of which are combined, each behind those that make what it uses.

    So what a rule looks at below an op is combined already, and each op is done with once for all."""

    def __init__(self, function):
        Renewal.__init__(self, function)
        self.fresh = FreshValues(function)
        self.rewriter = Rewriter(function)

    def later(self, label, place, op):
        """What stands in the place of a pure op behind the next steps: an op, None if it went, itself if it stays."""
        number = folded(op)
        if number is not None:
            self.renew(op[0], ("n", number), ("fold",))
            return None
        found = self.rewriter.found(op)
        if found is None:
            return op
        k, right = found
        operand = self.rewriter.operand_told(right, op)
        if operand is not None:
            self.renew(op[0], operand, ("rule", k))
            return None
        new = self.rewriter.op_told(right, op, self.fresh.take())
        self.steps.append(("put_in", self.name, label, place, new))
        self.renew(op[0], ("v", new[0]), ("rule", k))
        return new

    def combine(self, label, place, op):
        """What stands in the place of an op when no rule is left for it, or None."""
        while op is not None and is_pure(op):
            self.rewriter.makers[op[0]] = op
            new = self.later(label, place, op)
            if new == op:
                return op
            op = new
        return op

    def combined(self):
        """The function when all ops in reached blocks are combined."""
        blocks = blocks_by_label(self.function)
        rows = {}
        for label in defining_order(self.function):
            kept = []
            for op in blocks[label][2]:
                last = self.combine(label, len(kept), self.op_now(op))
                if last is not None:
                    kept.append(last)
            rows[label] = kept
        return self.renewed(rows)


def combined_function(function):
    """The pair of a function when it is combined, and the steps that lead to it."""
    combination = Combination(function)
    later = combination.combined()
    return later, combination.steps


def is_function_combined(function):
    rewriter = Rewriter(function)
    pure = [op for op in reached_ops(function) if is_pure(op)]
    return all([folded(op) is None and rewriter.found(op) is None for op in pure])


def is_combined(module):
    """Whether no pure op of a module has only numbers as args, and no rule is left for any."""
    return all([is_function_combined(function) for function in module[1]])


def pass_combine(module):
    """Some paper that leads a module to a combined one."""
    return tuple([step for function in module[1] for step in combined_function(function)[1]])
