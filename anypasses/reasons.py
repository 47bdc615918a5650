"""Reasons for which an operand may stand in the place of a value ([33])."""

from anypasses.editing import homes_of, makers_of
from anypasses.kinds import is_number
from anypasses.pureness import folded, is_pure
from anypasses.rangepapers import is_range_paper, told_at
from anypasses.rules import RULES, rule_fits
from anypasses.shapes import end_targets
from anypasses.webs import reached_labels


def is_same(function, value, other):
    """Whether the ops of two values, the second one being any value, are pure and equal but for their values."""
    makers = makers_of(function)
    if not is_number(other) or value not in makers or other not in makers:
        return False
    return is_pure(makers[value]) and makers[value][1:] == makers[other][1:]


def is_handed_alone(function, value, operand):
    """Whether each target with the label of a block hands its param, the value, this operand or the value itself."""
    for label, params, _, _ in function[3]:
        names = [param for param, _ in params]
        if value in names:
            at = names.index(value)
            args = [target[1][at] for block in function[3] for target in end_targets(block[3]) if target[0] == label]
            return all([arg in (operand, ("v", value)) for arg in args])
    return False


def is_ranged_alone(function, value, operand, paper):
    """Whether any value, the paper, tells that a value is just one number where it is made."""
    label, index = homes_of(function)[value]
    if label not in reached_labels(function) or operand[0] != "n" or not is_range_paper(function, paper):
        return False
    return told_at(function, paper, (label, index + 1), value) == (operand[1], operand[1])


def is_folded(function, value, operand):
    """Whether the op of a value, folded, tells this number."""
    makers = makers_of(function)
    if value not in makers:
        return False
    number = folded(makers[value])
    return number is not None and operand == ("n", number)


def is_reason(module, function, value, operand, reason):
    """Whether any value is a reason for an operand in the place of a value that a block makes."""
    if not isinstance(reason, tuple) or len(reason) == 0 or not isinstance(reason[0], str):
        return False
    form = (reason[0], len(reason))
    if form == ("fold", 1):
        return is_folded(function, value, operand)
    if form == ("block_param", 1):
        return is_handed_alone(function, value, operand)
    if form == ("rule", 2):
        k = reason[1]
        return is_number(k) and k < len(RULES) and rule_fits(module, function, k, value, operand)
    if form == ("same", 2):
        return operand == ("v", reason[1]) and is_same(function, value, reason[1])
    return form == ("range", 2) and is_ranged_alone(function, value, operand, reason[1])
