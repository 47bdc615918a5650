"""Steps on values and on blocks once more, as the document tells them, on functions taken apart into lists.

`told_value` and `told_flow` tell the module behind a step, or the number of the entry that does not fit."""

from anypasses.admission import module_fault
from anypasses.forms import is_op, is_operand
from anypasses.kinds import is_number
from anypasses.parts import operand_uses, value_types
from anypasses.pureness import folded, is_pure
from anypasses.rangepapers import is_range_paper, range_at
from anypasses.rules import RULES, rule_fits
from anypasses.standing import stands_at
from anypasses.webs import reached_labels
from webs_oracle import Web

FORMS = {"put_in": 5, "take_lot": 3, "take_out": 3, "use": 5, "use_in": 5, "pick": 3, "drop": 2, "join": 3, "bend": 4, "land": 4, "twin": 4,
         "carry": 4, "param_out": 4}
VALUE_WORDS = ("put_in", "take_lot", "take_out", "use", "use_in")
FLOW_WORDS = ("pick", "drop", "join", "bend", "land", "twin", "carry", "param_out")


class Unfit(Exception):
    pass


def need(held, at):
    if not held:
        raise Unfit(at)


def put(thing, swaps):
    """A nested tuple with other operands in the place of values; only operands are pairs that begin with "v"."""
    if type(thing) is tuple and len(thing) == 2 and thing[0] == "v" and thing[1] in swaps:
        return swaps[thing[1]]
    return tuple(put(part, swaps) for part in thing) if type(thing) is tuple else thing


def targets(end):
    return [part for part in end[1:] if type(part) is tuple and len(part) == 2 and type(part[0]) is int]


def with_part(end, at, target):
    """The end with another target at this index of its targets."""
    place = 1 + at if end[0] == "jump" else 2 + at
    return end[:place] + (target,) + end[place + 1:]


class Draft:
    """A function in lists: `rows` has [label, params, ops, end] for each block."""

    def __init__(self, module, name):
        self.module = module
        self.function = [function for function in module[1] if function[0] == name][0]
        self.rows = [list(block) for block in self.function[3]]
        self.labels = [row[0] for row in self.rows]
        self.kinds = dict(value_types(module, self.function))
        self.reached = reached_labels(self.function)

    def row(self, label):
        return self.rows[self.labels.index(label)]

    def ways(self, label):
        return sorted((row[0], at) for row in self.rows for at, target in enumerate(targets(row[3])) if target[0] == label)

    def made(self, label):
        _, params, ops, _ = self.row(label)
        return [value for value, _ in params] + [op[0] for op in ops if op[0] is not None]

    def home(self, value):
        """The label of the block that makes a value, and the index of its op, or None for a param; None if none does."""
        for label, params, ops, _ in self.rows:
            if value in [param for param, _ in params]:
                return label, None
            for at, op in enumerate(ops):
                if op[0] == value:
                    return label, at
        return None

    def op(self, value):
        home = self.home(value)
        return None if home is None or home[1] is None else self.row(home[0])[2][home[1]]

    def uses(self, value):
        return [use for use in operand_uses(self.function) if use[0] == value]

    def fresh(self):
        """The first new label, and the first new value."""
        return max(self.labels) + 1, max(self.kinds, default=-1) + 1

    def put(self, swaps, labels=None):
        for row in self.rows:
            if labels is None or row[0] in labels:
                row[2:] = put(tuple(row[2:]), swaps)

    def without_uses_of_args(self, label, places):
        """Leaves out the args at these indices of all ways into a block."""
        for source, at in self.ways(label):
            row = self.row(source)
            args = tuple(arg for k, arg in enumerate(targets(row[3])[at][1]) if k not in places)
            row[3] = with_part(row[3], at, (label, args))

    def built(self):
        name, params, result, _ = self.function
        new = (name, params, result, tuple((label, tuple(params), tuple(ops), end) for label, params, ops, end in self.rows))
        return self.module[0], tuple(new if function[0] == name else function for function in self.module[1])


def is_numbers(value):
    return type(value) is tuple and all(is_number(one) for one in value)


def told_by(act, module, step, words):
    try:
        need(type(step) is tuple and len(step) > 0 and type(step[0]) is str and step[0] in words and FORMS[step[0]] == len(step), 0)
        need(type(step[1]) is str and step[1] in [function[0] for function in module[1]], 1)
        return act(module, Draft(module, step[1]), step)
    except Unfit as unfit:
        return unfit.args[0]


def told_value(module, step):
    return told_by(value_step, module, step, VALUE_WORDS)


def told_flow(module, step):
    return told_by(flow_step, module, step, FLOW_WORDS)


def fits_kind(draft, operand, kind):
    word, thing = operand
    if word == "n":
        return kind != "ptr" and thing < 2 ** kind
    if word == "g":
        return kind == "ptr" and thing in [place[0] for place in draft.module[0]]
    return draft.kinds.get(thing) == kind


def value_step(module, draft, step):
    word = step[0]
    if word == "put_in":
        return told_put_in(module, draft, *step[2:])
    if word == "take_lot":
        return told_lot(draft, step[2])
    if word == "take_out":
        value = step[2]
        need(is_number(value) and draft.op(value) is not None and not draft.uses(value), 2)
        need(is_pure(draft.op(value)) or draft.op(value)[1] == "alloca", 2)
        label, at = draft.home(value)
        draft.row(label)[2] = draft.row(label)[2][:at] + draft.row(label)[2][at + 1:]
        return draft.built()
    return told_use(module, draft, *step[2:]) if word == "use" else told_use_in(draft, *step[2:])


def told_put_in(module, draft, label, place, op):
    need(is_number(label) and label in draft.labels, 2)
    row = draft.row(label)
    need(is_number(place) and place <= len(row[2]), 3)
    need(is_op(op) and is_pure(op) and op[0] not in draft.kinds, 4)
    standing = stands_at(draft.function, label, place)
    need(all(arg[0] != "v" or arg[1] in standing for arg in op[3]), 4)
    row[2] = row[2][:place] + (op,) + row[2][place:]
    # What is left to be asked are the info and the types; that is what the admission asks.
    need(module_fault(draft.built()) is None, 4)
    return draft.built()


def told_lot(draft, lot):
    need(is_numbers(lot) and len(lot) > 0 and list(lot) == sorted(set(lot)), 2)
    for value in lot:
        home, op = draft.home(value), draft.op(value)
        need(home is not None and (op is None or is_pure(op) or op[1] == "alloca"), 2)
    for value in lot:
        for _, label, place, at in draft.uses(value):
            _, _, ops, end = draft.row(label)
            if place < len(ops):
                need(ops[place][0] in lot, 3)
                continue
            handed = [(None, None)] if end[0] in ("branch", "return") else []
            for other, args in targets(end):
                handed += [(other, k) for k in range(len(args))]
            other, k = handed[at]
            need(other is not None and draft.row(other)[1][k][0] in lot, 3)
    for label in draft.labels:
        draft.without_uses_of_args(label, [at for at, (value, _) in enumerate(draft.row(label)[1]) if value in lot])
    for row in draft.rows:
        row[1] = tuple(param for param in row[1] if param[0] not in lot)
        row[2] = tuple(op for op in row[2] if op[0] not in lot)
    return draft.built()


def told_use(module, draft, value, operand, reason):
    need(is_number(value) and draft.home(value) is not None, 2)
    label, at = draft.home(value)
    need(is_operand(operand) and fits_kind(draft, operand, draft.kinds[value]), 3)
    if operand[0] == "v":
        need(operand[1] in stands_at(draft.function, label, at or 0), 3)
        need(at is not None or operand[1] not in [param for param, _ in draft.row(label)[1]], 3)
    need(type(reason) is tuple and len(reason) > 0 and type(reason[0]) is str, 4)
    need(reason[0] in ("fold", "rule", "same", "block_param", "range"), 4)
    need(len(reason) == (1 if reason[0] in ("fold", "block_param") else 2), 4)
    op = draft.op(value)
    if reason[0] == "fold":
        need(op is not None and folded(op) is not None and operand == ("n", folded(op)), 4)
    elif reason[0] == "rule":
        need(is_number(reason[1]) and reason[1] < len(RULES) and rule_fits(module, draft.function, reason[1], value, operand), 4)
    elif reason[0] == "same":
        need(is_number(reason[1]) and operand == ("v", reason[1]), 4)
        other = draft.op(reason[1])
        need(op is not None and other is not None and is_pure(op) and is_pure(other) and op[1:] == other[1:], 4)
    elif reason[0] == "block_param":
        need(at is None, 4)
        place = [param for param, _ in draft.row(label)[1]].index(value)
        need(all(targets(draft.row(source)[3])[k][1][place] in (operand, ("v", value)) for source, k in draft.ways(label)), 4)
    else:
        need(operand[0] == "n" and label in draft.reached and is_range_paper(draft.function, reason[1]), 4)
        need(range_at(draft.function, reason[1], (label, 0 if at is None else at + 1), value) == (operand[1],) * 2, 4)
    draft.put({value: operand})
    return draft.built()


def told_use_in(draft, label, value, operand):
    need(is_number(label) and label in draft.labels and label in draft.reached and len(draft.ways(label)) == 1, 2)
    source, at = draft.ways(label)[0]
    end = draft.row(source)[3]
    need(end[0] == "branch" and end[1][0] == "v" and end[2][0] != end[3][0], 2)
    need(is_number(value), 3)
    condition, op = end[1][1], draft.op(end[1][1])
    fitting = [("n", 1 - at)] if value == condition else []
    if op is not None and op[1] == "cmp" and op[2][0] == ("eq", "ne")[at] and ("v", value) in op[3]:
        fitting += [op[3][1]] if op[3][0] == ("v", value) else []
        fitting += [op[3][0]] if op[3][1] == ("v", value) else []
    need(fitting, 3)
    need(is_operand(operand) and operand in fitting, 4)
    web = Web(draft.function)
    draft.put({value: operand}, [other for other in draft.labels if web.dominates(label, other)])
    return draft.built()


def flow_step(module, draft, step):
    word, arity = step[0], len(step)
    if word == "drop":
        need(len(draft.reached) < len(draft.rows), arity)
        draft.rows = [row for row in draft.rows if row[0] in draft.reached]
        return draft.built()
    if word == "carry":
        return told_carry(draft, step[2], step[3])
    label = step[2]
    need(is_number(label) and label in draft.labels, 2)
    return {"pick": told_pick, "join": told_join, "bend": told_bend, "land": told_new, "twin": told_new, "param_out": told_param_out}[word](
        draft, label, step)


def told_pick(draft, label, step):
    row = draft.row(label)
    need(row[3][0] == "branch" and (row[3][1][0] == "n" or row[3][2] == row[3][3]), 3)
    row[3] = ("jump", row[3][3 if row[3][1] == ("n", 0) else 2])
    return draft.built()


def told_join(draft, label, step):
    ways = draft.ways(label)
    need(label in draft.reached and len(ways) == 1 and ways[0][0] != label and draft.row(ways[0][0])[3][0] == "jump", 3)
    source, row = draft.row(ways[0][0]), draft.row(label)
    swaps = {value: arg for (value, _), arg in zip(row[1], source[3][1][1])}
    source[2:] = [source[2] + row[2], row[3]]
    draft.rows.remove(row)
    draft.put(swaps)
    return draft.built()


def told_bend(draft, label, step):
    row, at = draft.row(label), step[3]
    need(is_number(at) and at < len(targets(row[3])), 3)
    middle, args = targets(row[3])[at]
    _, params, ops, end = draft.row(middle)
    need(ops == () and end[0] == "jump" and end[1][0] != middle, 4)
    need(all(use[1] == middle for value, _ in params for use in draft.uses(value)), 4)
    swaps = {value: arg for (value, _), arg in zip(params, args)}
    row[3] = with_part(row[3], at, (end[1][0], put(end[1][1], swaps)))
    return draft.built()


def told_new(draft, label, step):
    word, _, _, ways = step
    need(type(ways) is tuple and len(ways) > 0 and all(type(way) is tuple and len(way) == 2 and is_numbers(way) for way in ways), 3)
    need(list(ways) == sorted(set(ways)) and set(ways) <= set(draft.ways(label)), 3)
    new, value = draft.fresh()
    _, params, ops, end = draft.row(label)
    if word == "land":
        news = tuple((value + k, kind) for k, (_, kind) in enumerate(params))
        copy = [new, news, (), ("jump", (label, tuple(("v", one) for one, _ in news)))]
    else:
        made = draft.made(label)
        need(all(use[1] == label for one in made for use in draft.uses(one)), 4)
        numbers = {one: value + k for k, one in enumerate(made)}
        swaps = {one: ("v", numbers[one]) for one in made}
        copy = [new, tuple((numbers[one], kind) for one, kind in params),
                tuple((numbers.get(op[0]),) + put(op[1:], swaps) for op in ops), put(end, swaps)]
    for source, at in ways:
        row = draft.row(source)
        row[3] = with_part(row[3], at, (new, targets(row[3])[at][1]))
    draft.rows.append(copy)
    return draft.built()


def told_carry(draft, labels, value):
    need(is_numbers(labels) and len(labels) > 0 and list(labels) == sorted(set(labels)) and set(labels) <= set(draft.labels), 2)
    need(is_number(value) and value in draft.kinds, 3)
    for label in labels:
        need(label in draft.reached and label != draft.labels[0] and value not in draft.made(label), 4)
        need(value in stands_at(draft.function, label, 0), 4)
    web, first = Web(draft.function), draft.fresh()[1]
    news = {label: first + k for k, label in enumerate(labels)}
    names = {}
    for label in draft.labels:
        above = [one for one in labels if label in draft.reached and web.dominates(one, label)]
        near = [one for one in above if all(web.dominates(other, one) for other in above)]
        names[label] = ("v", news[near[0]] if near else value)
    ways = {label: draft.ways(label) for label in labels}
    for row in draft.rows:
        row[2:] = put(tuple(row[2:]), {value: names[row[0]]})
    for label in labels:
        for source, at in ways[label]:
            row = draft.row(source)
            row[3] = with_part(row[3], at, (label, targets(row[3])[at][1] + (names[source],)))
        draft.row(label)[1] += ((news[label], draft.kinds[value]),)
    return draft.built()


def told_param_out(draft, label, step):
    row, at = draft.row(label), step[3]
    need(is_number(at) and at < len(row[1]), 3)
    value = row[1][at][0]
    handed = sum(targets(draft.row(source)[3])[k][1][at] == ("v", value) for source, k in draft.ways(label))
    need(len(draft.uses(value)) == handed, 4)
    draft.without_uses_of_args(label, [at])
    row[1] = row[1][:at] + row[1][at + 1:]
    return draft.built()
