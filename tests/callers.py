"""Modules in which steps on calls fit, for the tests."""

from anypasses.admission import module_fault
from anypasses.renumbering import renamed, renumbered
from anypasses.shapes import defined_values
from call_oracle import calls, named, with_function, with_ops
from lively import LivelyMaker
from step_oracle import put


class CallerMaker(LivelyMaker):
    """Makes a small function, many ops of which are pure ones and calls."""

    most_blocks = 4

    def __init__(self, rng, name, signatures, places):
        LivelyMaker.__init__(self, rng, name, signatures, places)
        self.still = rng.random() < 0.6

    def op_count(self):
        return self.rng.randint(0, 3)

    def head(self, at, k, count):
        """Mostly a later block, so that there are functions without loops."""
        return min(count - 1, at + 1 + k) if self.still or self.rng.random() < 0.8 else self.rng.randrange(1, count)

    def end(self, shape, labels, params, at_hand, ops):
        if self.still and (shape[0] == "stop" or shape[1][-1:] == [len(labels) - 1] and self.rng.random() < 0.5):
            shape = ("return", [])
        return LivelyMaker.end(self, shape, labels, params, at_hand, ops)

    def add_op(self, at_hand, ops):
        before = len(ops)
        LivelyMaker.add_op(self, at_hand, ops)
        loud = [op for op in ops[before:] if op[1] in ("load", "store", "print", "input")]
        if loud and (self.still or self.rng.random() < 0.6):
            for op in ops[before:]:
                if op[0] is not None:
                    at_hand.remove(op[0])
            del ops[before:]


def twisted(rng, module):
    """The module with some change by which a step may come to fit."""
    function = rng.choice(module[1])
    name, params, result, blocks = function
    word = rng.choice(("tail", "tail", "copy", "copy", "constant", "result", "own", "unused"))
    if word == "tail":
        ends = [block for block in blocks if block[3][0] == "return"]
        if not ends:
            return module
        block = rng.choice(ends)
        value = None if result is None else max(defined_values(function), default=-1) + 1
        args = tuple(("v", at) if rng.random() < 0.6 or kind == "ptr" else ("n", 1) for at, kind in enumerate(params))
        end = ("return", None if value is None else ("v", value))
        new = block[:2] + (block[2] + ((value, "call", (name,), args),), end)
        return with_function(module, (name, params, result, tuple(new if other is block else other for other in blocks)))
    if word == "copy":
        names = [one for one in ("f", "g", "h") if one != name]
        other = rng.choice(names)
        copy = (other,) + with_ops(((), (function,)), lambda _, op: (op[0], op[1], (other,), op[3]) if rng.random() < 0.5 and op[1:3] == ("call", (name,)) else op)[1][0][1:]
        if name == "main" and rng.random() < 0.5:
            return module
        return (module[0], tuple(sorted([one for one in module[1] if one[0] != other] + [copy])))
    if word == "constant" and params:
        at = rng.randrange(len(params))
        operand = ("g", "tab") if params[at] == "ptr" else ("n", rng.randint(0, 1))

        def change(caller, op):
            if op[1] != "call" or op[2][0] != name:
                return op
            arg = ("v", at) if caller == name and rng.random() < 0.7 else operand
            return op[:3] + (op[3][:at] + (arg,) + op[3][at + 1:],)

        return with_ops(module, change)
    if word == "result" and result is not None:
        operand = rng.choice([("n", 1)] + [("v", at) for at, kind in enumerate(params) if kind == result])
        new = tuple(block[:3] + (("return", operand),) if block[3][0] == "return" and (rng.random() < 0.9) else block for block in blocks)
        return with_function(module, (name, params, result, new))
    if word == "own" and params:
        at = rng.randrange(len(params))
        swaps = {at: ("g", "tab") if params[at] == "ptr" else ("n", 1)}
        return with_function(module, function[:3] + (tuple(block[:2] + put(block[2:], swaps) for block in blocks),))
    if word == "unused":
        values = {op[0]: ("n", 1) for op in calls(function) if op[0] is not None}
        return with_function(module, function[:3] + (tuple(block[:2] + put(block[2:], values) for block in blocks),))
    return module


def relabelled(rng, module):
    """The module with other labels and values."""
    names = []
    for function in module[1]:
        labels, values = [block[0] for block in function[3]], sorted(defined_values(function))
        new = list(range(len(function[1]))) + sorted(rng.sample(range(len(function[1]), 900), len(values) - len(function[1])))
        names.append((tuple(sorted(zip(labels, rng.sample(range(90), len(labels))))), tuple(zip(values, new))))
    return renamed(module, tuple(names))


def calling_module(rng):
    """A module without a fault, in which steps on calls fit."""
    places = (("tab", 8, 2, (3, 200)), ("zed", 16, 1, (9,)))
    signatures = {"main": ((), 8)}
    for name in rng.sample(["f", "g", "h"], rng.randint(1, 3)):
        signatures[name] = (tuple(rng.choices((8, 8, 1, "ptr"), k=rng.randint(0, 2))), rng.choice((8, 8, None)))
    module = (places, tuple(CallerMaker(rng, name, signatures, ["tab"]).function() for name in sorted(signatures)))
    for _ in range(rng.randint(0, 8)):
        later = twisted(rng, module)
        module = module if module_fault(later) is not None else later
    return relabelled(rng, module) if rng.random() < 0.7 else renumbered(module)
