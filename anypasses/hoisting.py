"""Ops that need nothing of a loop, put ahead of it ([67])."""

from anypasses.editing import blocks_by_label, free_label, homes_of
from anypasses.landing import landing_of
from anypasses.looping import Loops
from anypasses.moreblocks import landed
from anypasses.orders import defining_order
from anypasses.pureness import is_pure
from anypasses.renewing import FreshValues, Renewal


def values_used(op):
    return [thing for word, thing in op[3] if word == "v"]


def is_loose_in(labels, homes, op):
    """Whether an op in a loop with these labels is pure and needs nothing of it."""
    return is_pure(op) and all([value not in homes or homes[value][0] not in labels for value in values_used(op)])


def loose_values(function):
    """The values of the ops of a function that are loose in some loop."""
    loops = Loops(function)
    homes = homes_of(function)
    found = []
    for label, _, ops, _ in function[3]:
        around = [loops.labels[head] for head in loops.heads_at(label)]
        found.extend([op[0] for op in ops if any([is_loose_in(labels, homes, op) for labels in around])])
    return found


def loose_ops(module):
    """The pairs of the name of a function and the value of an op that is loose in some loop there."""
    return tuple(sorted([(function[0], value) for function in module[1] for value in loose_values(function)]))


class Plan:
    """Which ops of a function go ahead of which loops: each one ahead of the largest in which it is loose by then.

    `around` has for each value the heads of the loops in which it is made when all ops have gone; an op comes behind
    those that make what it uses, so theirs are known then. `goals` has for the value of each op that goes the head."""

    def __init__(self, function):
        self.loops = Loops(function)
        self.around = {}
        self.goals = {}
        blocks = blocks_by_label(function)
        for label in defining_order(function):
            heads = self.loops.heads_at(label)
            for value, _ in blocks[label][1]:
                self.around[value] = heads
            for op in blocks[label][2]:
                if op[0] is not None:
                    self.set_goal(op, heads)

    def set_goal(self, op, heads):
        """Finds where the op of a block in the loops of these heads goes, the largest loop standing first."""
        loose = [head for head in heads if self.is_free(op, head)] if is_pure(op) else []
        self.around[op[0]] = heads
        if len(loose) > 0:
            self.goals[op[0]] = loose[0]
            self.around[op[0]] = [head for head in self.loops.heads_at(loose[0]) if head != loose[0]]

    def is_free(self, op, head):
        """Whether an op needs nothing that is made in the loop of a head."""
        return all([head not in self.around.get(value, []) for value in values_used(op)])


class Hoisting(Renewal):
    """A function the loose ops of which go to the ends of landing blocks."""

    def __init__(self, function, plan):
        Renewal.__init__(self, function)
        self.plan = plan
        self.landings = {}
        self.land(plan.loops)
        self.fresh = FreshValues(self.function)

    def land(self, loops):
        """Finds the landing blocks that are wanted, or makes them."""
        blocks = blocks_by_label(self.function)
        for head in sorted(set(list(self.plan.goals.values()))):
            self.landings[head] = landing_of(blocks, loops, head)
            if self.landings[head] is None:
                ways = loops.outer_ways(head)
                self.landings[head] = free_label(self.function)
                self.steps.append(("land", self.name, head, ways))
                self.function = landed(self.function, blocks[head], ways)

    def move(self, rows, op):
        """Puts an op to the end of its landing block, instead of where it stands."""
        label = self.landings[self.plan.goals[op[0]]]
        new = (self.fresh.take(),) + op[1:]
        self.steps.append(("put_in", self.name, label, len(rows[label]), new))
        self.renew(op[0], ("v", new[0]), ("same", new[0]))
        rows[label].append(new)

    def hoisted(self):
        """The function when all loose ops have gone ahead of their loops."""
        blocks = blocks_by_label(self.function)
        order = defining_order(self.function)
        rows = {label: [] for label in order}
        for label in order:
            for op in blocks[label][2]:
                if op[0] in self.plan.goals:
                    self.move(rows, self.op_now(op))
                else:
                    rows[label].append(self.op_now(op))
        return self.renewed(rows)


def hoisting_steps(function):
    """The steps by which all loose ops of a function go ahead of their loops."""
    plan = Plan(function)
    if len(plan.goals) == 0:
        return []
    hoisting = Hoisting(function, plan)
    hoisting.hoisted()
    return hoisting.steps


def pass_hoist(module):
    """Some paper that leads a module to one without loose ops."""
    return tuple([step for function in module[1] for step in hoisting_steps(function)])
