"""Steps on what is loaded and stored once more, as the document tells them."""

from anypasses.forms import is_operand
from anypasses.kinds import is_number
from anypasses.webs import reached_labels
from place_oracle import ahead, base, goes_to, holds, inside, made_by, place, private, unread
from step_oracle import FORMS, Draft, is_numbers, need, put, targets, told_by, with_part

MEMORY_WORDS = ("forward", "load_out", "promote", "store_out")
FORMS.update({"forward": 4, "load_out": 3, "promote": 4, "store_out": 5})


def told_memory(module, step):
    return told_by(memory_step, module, step, MEMORY_WORDS)


def is_holding(module, function, spot, paper):
    """Whether any value is a contents paper that holds."""
    if type(paper) is not tuple or not all(type(pair) is tuple and len(pair) == 2 for pair in paper):
        return False
    labels = [label for label, _ in paper]
    if not is_numbers(tuple(labels)) or labels != sorted(set(labels)) or not all(is_operand(operand) for _, operand in paper):
        return False
    return set(labels) <= set(reached_labels(function)) - {function[3][0][0]} and holds(module, function, spot, dict(paper))


def is_unread_lot(module, function, spot, labels):
    """Whether any value is a tuple of labels from which on the place is unread."""
    if not is_numbers(labels) or list(labels) != sorted(set(labels)) or not set(labels) <= {block[0] for block in function[3]}:
        return False
    return all(unread(module, function, spot, labels, label, 0) for label in labels)


def memory_step(module, draft, step):
    word, function = step[0], draft.function
    if word == "promote":
        return told_promote(module, draft, step[2], step[3])
    if word == "store_out":
        return told_store_out(module, draft, *step[2:])
    value = step[2]
    need(is_number(value) and draft.op(value) is not None and draft.op(value)[1] == "load", 2)
    label, at = draft.home(value)
    spot = goes_to(function, draft.op(value))
    swaps = {}
    if word == "load_out":
        need(inside(module, function, spot) and not draft.uses(value), 2)
    else:
        need(is_holding(module, function, spot, step[3]), 3)
        content = ahead(module, function, spot, dict(step[3]), label, at)
        need(content is not None and content != ("v", value), 3)
        swaps = {value: content}
    row = draft.row(label)
    row[2] = row[2][:at] + row[2][at + 1:]
    draft.put(swaps)
    return draft.built()


def told_store_out(module, draft, label, index, reason):
    function = draft.function
    need(is_number(label) and label in draft.labels, 2)
    row = draft.row(label)
    need(is_number(index) and index < len(row[2]) and row[2][index][1] == "store", 3)
    need(type(reason) is tuple and (len(reason), reason[:1]) in ((2, ("same",)), (3, ("unread",))), 4)
    spot = goes_to(function, row[2][index])
    need(is_holding(module, function, spot, reason[1]), 4)
    content = ahead(module, function, spot, dict(reason[1]), label, index)
    if reason[0] == "same":
        need(content == row[2][index][3][0], 4)
    else:
        need(content is not None or inside(module, function, spot), 4)
        need(is_unread_lot(module, function, spot, reason[2]), 4)
        need(unread(module, function, spot, reason[2], label, index + 1), 4)
    row[2] = row[2][:index] + row[2][index + 1:]
    return draft.built()


def told_offsets(module, function, value):
    """The offsets of the cells of a private alloca that are loaded from or stored to, or None."""
    if not private(function, value):
        return None
    spots = [goes_to(function, op) for block in function[3] for op in block[2] if op[1] in ("load", "store")]
    spots = [spot for spot in spots if spot is not None and spot[0] == ("v", value)]
    if not all(inside(module, function, spot) for spot in spots):
        return None
    return tuple(sorted({spot[1] for spot in spots}))


def is_promotion_form(draft, count, paper):
    if type(paper) is not tuple or not all(type(pair) is tuple and len(pair) == 2 for pair in paper):
        return False
    if not is_numbers(tuple(label for label, _ in paper)) or [label for label, _ in paper] != sorted(draft.labels[1:]):
        return False
    news = []
    for _, row in paper:
        if type(row) is not tuple or len(row) != count:
            return False
        for entry in row:
            if type(entry) is tuple and len(entry) == 2 and entry[0] == "new" and is_number(entry[1]):
                news.append(entry[1])
            elif not is_operand(entry):
                return False
    return len(set(news)) == len(news) and not set(news) & set(draft.kinds)


def told_promote(module, draft, value, paper):
    function = draft.function
    need(is_number(value) and len(draft.reached) == len(draft.rows), 2)
    offsets = told_offsets(module, function, value)
    need(offsets is not None, 2)
    need(is_promotion_form(draft, len(offsets), paper), 3)
    root, width = ("v", value), draft.op(value)[2][0]
    rows = {label: [("v", entry[1]) if entry[0] == "new" else entry for entry in row] for label, row in paper}
    rows[draft.labels[0]] = [("n", 0) for _ in offsets]

    def content(cell, label, index):
        return ahead(module, function, (root, offsets[cell], width), {label: rows[label][cell]}, label, index)

    loaded = {}
    for label, _, ops, _ in draft.rows:
        for at, op in enumerate(ops):
            if op[1] == "load" and goes_to(function, op)[0] == root:
                loaded[op[0]] = content(offsets.index(goes_to(function, op)[1]), label, at)

    def meant(operand):
        for _ in range(len(loaded) + 1):
            if operand is None or operand[0] != "v" or operand[1] not in loaded:
                return operand
            operand = loaded[operand[1]]
        return None

    need(all(meant(("v", load)) is not None for load in loaded), 3)
    handed = {}
    for label, row in paper:
        for source, at in draft.ways(label):
            handed[source, at] = []
            for cell, entry in enumerate(row):
                told = meant(content(cell, source, len(draft.row(source)[2])))
                need(told is not None and (entry[0] == "new" or meant(entry) == told), 3)
                handed[source, at] += [told] if entry[0] == "new" else []
    for row in draft.rows:
        news = tuple((entry[1], width) for entry in dict(paper).get(row[0], ()) if entry[0] == "new")
        row[1] += news
        row[2] = tuple(op for op in row[2] if not is_gone(function, root, op))
    draft.put({load: meant(("v", load)) for load in loaded})
    for (source, at), more in handed.items():
        row = draft.row(source)
        label, args = targets(row[3])[at]
        row[3] = with_part(row[3], at, (label, args + tuple(more)))
    return draft.built()


def is_gone(function, root, op):
    if op[1] in ("load", "store"):
        return goes_to(function, op)[0] == root
    return op[0] is not None and place(function, ("v", op[0]), 8)[0] == root
