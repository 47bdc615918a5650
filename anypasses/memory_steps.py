"""Steps on what is loaded and stored ([42])."""

from anypasses.contents import content_ahead, contents_hold, is_unread, unread_holds
from anypasses.editing import homes_of, makers_of, used_values, with_block, with_function, without_value
from anypasses.kinds import is_number
from anypasses.places import is_inside, place_of
from anypasses.pointers import pointer_of
from anypasses.promoting import Promotion, cell_offsets, has_promotion_form
from anypasses.stepforms import want, want_form, want_function, want_index, want_label
from anypasses.swapping import swapped_function
from anypasses.webs import reached_labels

MEMORY_WORDS = ("forward", "load_out", "promote", "store_out")
MEMORY_FORMS = (("forward", 4), ("load_out", 3), ("promote", 4), ("store_out", 5))


def told_cells(function, value):
    """The offsets, ascending, of the cells that are loaded from or stored to, if a value's alloca can be promoted."""
    return cell_offsets(function, value)


def want_load(function, value):
    """The op of any value, the entry 2 of a step, that is loaded."""
    want(is_number(value), 2)
    op = makers_of(function).get(value)
    want(op is not None and op[1] == "load", 2)
    return op


def reached_place(function, op):
    """The place to which a load or a store goes."""
    return place_of(function, pointer_of(op), op[2][0])


def forwarded(function, step):
    value, paper = step[2], step[3]
    place = reached_place(function, want_load(function, value))
    want(contents_hold(function, place, paper), 3)
    label, index = homes_of(function)[value]
    content = content_ahead(function, place, paper, label, index)
    want(content is not None and content != ("v", value), 3)
    return swapped_function(without_value(function, value), {value: content})


def without_load(module, function, step):
    op = want_load(function, step[2])
    want(step[2] not in used_values(function) and is_inside(module, function, reached_place(function, op)), 2)
    return without_value(function, step[2])


def is_store_needless(module, function, label, index, reason):
    """Whether any value is a reason for which the store at an index of a block can go."""
    if not isinstance(reason, tuple) or len(reason) == 0 or not isinstance(reason[0], str):
        return False
    form = (reason[0], len(reason))
    if form not in (("same", 2), ("unread", 3)):
        return False
    blocks = [block for block in function[3] if block[0] == label]
    op = blocks[0][2][index]
    place = reached_place(function, op)
    if not contents_hold(function, place, reason[1]):
        return False
    content = content_ahead(function, place, reason[1], label, index)
    if reason[0] == "same":
        return content == op[3][0]
    if content is None and not is_inside(module, function, place):
        return False
    labels = reason[2]
    return unread_holds(function, place, labels) and is_unread(function, place, labels, label, index + 1)


def without_store(module, function, step):
    index, reason = step[3], step[4]
    label, params, ops, end = function[3][want_label(function, step[2], 2)]
    want_index(index, len(ops), 3)
    want(ops[index][1] == "store", 3)
    want(is_store_needless(module, function, label, index, reason), 4)
    return with_block(function, (label, params, ops[:index] + ops[index + 1:], end))


def promoted(function, step):
    value, paper = step[2], step[3]
    want(is_number(value) and len(reached_labels(function)) == len(function[3]), 2)
    offsets = told_cells(function, value)
    want(offsets is not None, 2)
    want(has_promotion_form(function, len(offsets), paper), 3)
    promotion = Promotion(function, value, offsets, paper)
    want(promotion.fits(), 3)
    return promotion.promoted()


def apply_memory(module, step):
    """The module behind any value, a step on what is loaded and stored."""
    want_form(step, MEMORY_FORMS)
    function = want_function(module, step[1])
    word = step[0]
    if word == "forward":
        return with_function(module, forwarded(function, step))
    if word == "load_out":
        return with_function(module, without_load(module, function, step))
    if word == "store_out":
        return with_function(module, without_store(module, function, step))
    return with_function(module, promoted(function, step))
