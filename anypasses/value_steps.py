"""Steps on values ([32] to [34], [51])."""

from anypasses.admission import is_op_right
from anypasses.dominating import dominates
from anypasses.editing import homes_of, used_values, with_block, with_blocks, with_function, without_value
from anypasses.forms import is_op, is_operand
from anypasses.kinds import is_number
from anypasses.lots import is_needless_op, lot_taken
from anypasses.pureness import is_pure
from anypasses.reasons import is_reason
from anypasses.scopes import Scope
from anypasses.shapes import defined_values, first_blocks
from anypasses.sidebranches import side_of, told_on_side
from anypasses.stepforms import want, want_form, want_function, want_index, want_label
from anypasses.swapping import swapped_block, swapped_function

VALUE_WORDS = ("put_in", "take_lot", "take_out", "use", "use_in")
VALUE_FORMS = (("put_in", 5), ("take_lot", 3), ("take_out", 3), ("use", 5), ("use_in", 5))


def scope_at(module, function, at, place):
    """What may be spoken of at a place of the block with this index."""
    scope = Scope(module, function)
    scope.stood = scope.standing.bits_at(function, at, place)
    return scope


def is_new_op(module, function, at, place, op):
    """Whether any value is a pure op with a new value that is let at a place of the block with this index."""
    if not is_op(op) or not is_pure(op) or op[0] in defined_values(function):
        return False
    return is_op_right(scope_at(module, function, at, place), op)


def put_in(module, function, step):
    """The function with one more op in a block."""
    place, op = step[3], step[4]
    at = want_label(function, step[2], 2)
    label, params, ops, end = function[3][at]
    want_index(place, len(ops) + 1, 3)
    want(is_new_op(module, function, at, place, op), 4)
    return with_block(function, (label, params, ops[:place] + (op,) + ops[place:], end))


def take_out(function, step):
    """The function without an op the value of which nobody uses."""
    value = step[2]
    want(is_number(value) and value not in used_values(function), 2)
    ops = [op for block in function[3] for op in block[2] if op[0] == value]
    want(len(ops) == 1 and is_needless_op(ops[0]), 2)
    return without_value(function, value)


def is_at_hand(module, function, value, operand):
    """Whether any value is an operand that may stand where a value is made: of its type, and standing there."""
    if not is_operand(operand):
        return False
    label, index = homes_of(function)[value]
    at = first_blocks(function)[label]
    scope = scope_at(module, function, at, max(index, 0))
    # What is not reached has all values standing at its start, the block's params among them.
    if index < 0 and operand[0] == "v" and operand[1] in [param for param, _ in function[3][at][1]]:
        return False
    return scope.fits(operand, scope.kinds[value])


def use(module, function, step):
    """The function with an operand in all places of a value."""
    value, operand, reason = step[2], step[3], step[4]
    want(is_number(value) and value in homes_of(function), 2)
    want(is_at_hand(module, function, value, operand), 3)
    want(is_reason(module, function, value, operand, reason), 4)
    return swapped_function(function, {value: operand})


def use_in(function, step):
    """The function with an operand in the place of a value behind one side of a branch."""
    label, value, operand = step[2], step[3], step[4]
    want_label(function, label, 2)
    side = side_of(function, label)
    want(side is not None, 2)
    told = told_on_side(function, side[0], side[1], value) if is_number(value) else []
    want(len(told) > 0, 3)
    want(is_operand(operand) and operand in told, 4)
    blocks = []
    for block in function[3]:
        inside = dominates(function, label, block[0])
        blocks.append(swapped_block(block, {value: operand}) if inside else block)
    return with_blocks(function, blocks)


def apply_value(module, step):
    """The module behind any value, a step on values."""
    want_form(step, VALUE_FORMS)
    function = want_function(module, step[1])
    word = step[0]
    if word == "put_in":
        return with_function(module, put_in(module, function, step))
    if word == "take_out":
        return with_function(module, take_out(function, step))
    if word == "use":
        return with_function(module, use(module, function, step))
    if word == "use_in":
        return with_function(module, use_in(function, step))
    return with_function(module, lot_taken(function, step[2]))
