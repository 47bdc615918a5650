"""Who calls whom in a module, and which steps on params and results are of use ([72])."""

from anypasses.call_steps import apply_call, is_constant_of
from anypasses.calling import called_names, calls_in, returned_operands, values_of_calls
from anypasses.editing import used_counts, used_in
from anypasses.judge import behind_or_none
from anypasses.signatures import uses_as_arg
from anypasses.webs import reached_labels


def used_where_reached(function):
    """The values that are operands in reached blocks, as keys of a dict."""
    reached = {label: True for label in reached_labels(function)}
    return {value: True for block in function[3] if block[0] in reached for value in used_in(block)}


class CallBook:
    """The functions of a module; `callers` has for each name the names of the functions with calls of it.

    A step on the params or the result of a function changes this one and its callers alone, so only these are looked
    at. No such step takes a call away."""

    def __init__(self, module):
        self.places = module[0]
        self.functions = {function[0]: function for function in module[1]}
        self.callers = {name: [] for name in self.functions}
        for name in self.functions:
            for other in called_names(self.functions[name]):
                self.callers[other].append(name)

    def part(self, name):
        """The part of the module that a step on a function may change."""
        around = sorted(set(self.callers[name] + [name]))
        return (self.places, tuple([self.functions[other] for other in around]))

    def constants(self, name, at):
        """What the first call of a function from another one hands on for a param, if it is a constant of its type."""
        others = [other for other in self.callers[name] if other != name]
        args = [op[3][at] for other in others[:1] for op in calls_in(self.functions[other], name)]
        kind = self.functions[name][1][at]
        return [arg for arg in args[:1] if is_constant_of((self.places, ()), arg, kind)]

    def param_steps(self, name):
        """The steps on the params of a function of which some may be of use; those that drop a param surely are."""
        function = self.functions[name]
        counts = used_counts(function)
        steps = []
        for at, _ in enumerate(function[1]):
            if counts.get(at, 0) == uses_as_arg(function, at):
                return [("param_drop", name, at)]
            steps.extend([("constant_arg", name, at, operand) for operand in self.constants(name, at)])
        return steps

    def is_result_used(self, name):
        """Whether the value of a call of a function is used in a reached block of some function."""
        for other in self.callers[name]:
            used = used_where_reached(self.functions[other])
            if any([value in used for value in values_of_calls(self.functions[other], name)]):
                return True
        return False

    def known_result(self, name):
        """What alone a function may be known to return; if it returns only what calls of itself tell, any number is."""
        function = self.functions[name]
        calls = values_of_calls(function, name)
        told = [operand for operand in returned_operands(function) if operand[0] != "v" or operand[1] not in calls]
        return told[0] if len(told) > 0 else ("n", 0)

    def result_steps(self, name):
        """The steps on the result of a function of which some may be of use."""
        if self.functions[name][2] is None:
            return []
        if not self.is_result_used(name):
            return [("result_drop", name)]
        return [("result_drop", name), ("result_known", name, self.known_result(name))]

    def loose_step(self, name):
        """Some step of use on a function, or None."""
        part = self.part(name)
        for step in self.param_steps(name) + self.result_steps(name):
            if behind_or_none(part, step) is not None:
                return step
        return None

    def make(self, step):
        """Makes a step that fits."""
        for function in apply_call(self.part(step[1]), step)[1]:
            self.functions[function[0]] = function
