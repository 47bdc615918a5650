"""The machine once more, as plain as can be, to set against the one of the package."""


def wrap(number, width):
    return number % 2 ** width


def sign(number, width):
    return number if number < 2 ** (width - 1) else number - 2 ** width


def plain_bin(op, width, one, other):
    if op in ("udiv", "urem", "sdiv", "srem"):
        if other == 0:
            return None
        if op[0] == "s":
            one, other = sign(one, width), sign(other, width)
        size = abs(one) // abs(other)
        whole = size if one * other >= 0 else -size
        return wrap(whole if op.endswith("div") else one - other * whole, width)
    k = other % width
    told = {
        "add": one + other, "sub": one - other, "mul": one * other, "and": one & other, "or": one | other,
        "xor": one ^ other, "shl": one * 2 ** k, "lshr": one // 2 ** k, "ashr": sign(one, width) // 2 ** k,
    }
    return wrap(told[op], width)


def plain_cmp(pred, width, one, other):
    if pred[0] == "s":
        one, other = sign(one, width), sign(other, width)
    return int({"eq": one == other, "ne": one != other, "lt": one < other, "le": one <= other}[pred.lstrip("us")])


def function_named(module, name):
    return [function for function in module[1] if function[0] == name][0]


def block_labelled(function, label):
    return [block for block in function[3] if block[0] == label][0]


def plain_step(module, state):
    """The state behind one step."""
    objects, frames, inputs, outputs, end = state
    if end is not None:
        return state
    name, label, place, values, base = frames[-1]
    given = dict(values)
    block = block_labelled(function_named(module, name), label)

    def read(operand):
        word, thing = operand
        if word == "n":
            return thing
        return given[thing] if word == "v" else ([other[0] for other in module[0]].index(thing), 0)

    def frame(label, place, given):
        return (name, label, place, tuple(sorted(given.items())), base)

    def trap(kind):
        return (objects, frames, inputs, outputs, ("trap", kind))

    if place == len(block[2]):
        return plain_end(module, state, block[3], read, frame, trap)
    value, kind, info, args = block[2][place]
    told = [read(arg) for arg in args]
    if kind == "call":
        entry = function_named(module, info[0])[3][0][0]
        new = (info[0], entry, 0, tuple(enumerate(told)), len(objects))
        return (objects, frames + (new,), inputs, outputs, None)
    if kind in ("load", "store"):
        number, integer = told[-1]
        if objects[number] is None or objects[number][0] != info[0] or integer not in range(len(objects[number][1])):
            return trap("index")
        cells = list(objects[number][1])
        if kind == "store":
            cells[integer] = told[0]
            objects = objects[:number] + ((info[0], tuple(cells)),) + objects[number + 1:]
        else:
            given[value] = cells[integer]
    elif kind == "bin":
        given[value] = plain_bin(info[0], info[1], *told)
        if given[value] is None:
            return trap("divide")
    elif kind == "cmp":
        given[value] = plain_cmp(info[0], info[1], *told)
    elif kind == "select":
        given[value] = told[1] if told[0] == 1 else told[2]
    elif kind == "cast":
        given[value] = wrap(sign(told[0], info[1]) if info[0] == "sext" else told[0], info[2])
    elif kind == "alloca":
        given[value] = (len(objects), 0)
        objects = objects + ((info[0], (0,) * info[1]),)
    elif kind == "at":
        given[value] = (told[0][0], told[0][1] + sign(told[1], info[0]))
    elif kind == "print":
        outputs = outputs + (told[0],)
    elif kind == "input":
        if not inputs:
            return trap("input")
        given[value] = wrap(inputs[0], info[0])
        inputs = inputs[1:]
    return (objects, frames[:-1] + (frame(label, place + 1, given),), inputs, outputs, None)


def plain_end(module, state, end, read, frame, trap):
    objects, frames, inputs, outputs, _ = state
    if end[0] == "stop":
        return trap("stop")
    if end[0] == "return":
        told = None if end[1] is None else read(end[1])
        if len(frames) == 1:
            return (objects, frames, inputs, outputs, ("value", told))
        name, label, place, values, base = frames[-2]
        value = block_labelled(function_named(module, name), label)[2][place][0]
        given = dict(values)
        if value is not None:
            given[value] = told
        left = objects[:frames[-1][4]] + (None,) * (len(objects) - frames[-1][4])
        caller = (name, label, place + 1, tuple(sorted(given.items())), base)
        return (left, frames[:-2] + (caller,), inputs, outputs, None)
    target = end[1] if end[0] == "jump" else end[2] if read(end[1]) == 1 else end[3]
    block = block_labelled(function_named(module, frames[-1][0]), target[0])
    given = dict(frames[-1][3])
    given.update({value: read(arg) for (value, _), arg in zip(block[1], target[1])})
    return (objects, frames[:-1] + (frame(target[0], 0, given),), inputs, outputs, None)
