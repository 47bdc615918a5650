"""What each op and each ending does to an engine ([18])."""

from anypasses.numbers import bin_told, cast_told, cmp_told, signed, wrapped


def trap(engine, kind):
    engine.end = ("trap", kind)


def do_bin(engine, op):
    word, width = op[2]
    one, other = op[3]
    told = bin_told(word, width, engine.told_by(one), engine.told_by(other))
    if told is None:
        trap(engine, "divide")
    else:
        engine.give(op[0], told)


def do_cmp(engine, op):
    pred, width = op[2]
    one, other = op[3]
    engine.give(op[0], cmp_told(pred, width, engine.told_by(one), engine.told_by(other)))


def do_select(engine, op):
    condition, one, other = op[3]
    engine.give(op[0], engine.told_by(one if engine.told_by(condition) == 1 else other))


def do_cast(engine, op):
    kind, width, to = op[2]
    engine.give(op[0], cast_told(kind, width, to, engine.told_by(op[3][0])))


def do_alloca(engine, op):
    width, size = op[2]
    engine.give(op[0], engine.new_object(width, size))


def do_at(engine, op):
    thing, integer = engine.told_by(op[3][0])
    engine.give(op[0], (thing, integer + signed(engine.told_by(op[3][1]), op[2][0])))


def cells_or_trap(engine, pointer, width):
    """The list in which the cell of a pointer stands; None, and the trap, if there is no such cell of the width."""
    cells = engine.cells_at(pointer, width)
    if cells is None:
        trap(engine, "index")
    return cells


def do_load(engine, op):
    pointer = engine.told_by(op[3][0])
    cells = cells_or_trap(engine, pointer, op[2][0])
    if cells is not None:
        engine.give(op[0], cells[pointer[1]])


def do_store(engine, op):
    pointer = engine.told_by(op[3][1])
    cells = cells_or_trap(engine, pointer, op[2][0])
    if cells is not None:
        cells[pointer[1]] = engine.told_by(op[3][0])
        engine.give(None, None)


def do_print(engine, op):
    number = engine.told_by(op[3][0])
    engine.outputs.append(number)
    engine.deeds.append(("print", number))
    engine.give(None, None)


def do_input(engine, op):
    if engine.taken == len(engine.inputs):
        trap(engine, "input")
        return
    number = wrapped(engine.inputs[engine.taken], op[2][0])
    engine.taken += 1
    engine.deeds.append(("input", number))
    engine.give(op[0], number)


def do_call(engine, op):
    engine.enter(op[2][0], [engine.told_by(arg) for arg in op[3]])


def go_to(engine, target):
    """Goes to a block; all args are read before any param changes, as params may be handed on crosswise."""
    label, args = target
    frame = engine.top
    told = [engine.told_by(arg) for arg in args]
    frame.block = engine.block_of(frame.name, label)
    frame.place = 0
    for (value, _), thing in zip(frame.block[1], told):
        frame.given[value] = thing


def do_jump(engine, end):
    go_to(engine, end[1])


def do_branch(engine, end):
    go_to(engine, end[2] if engine.told_by(end[1]) == 1 else end[3])


def do_return(engine, end):
    told = None if end[1] is None else engine.told_by(end[1])
    if engine.depth() == 1:
        engine.end = ("value", told)
        return
    engine.leave()
    frame = engine.top
    engine.give(frame.block[2][frame.place][0], told)


def do_stop(engine, _):
    trap(engine, "stop")


OP_ACTIONS = {
    "bin": do_bin, "cmp": do_cmp, "select": do_select, "cast": do_cast, "alloca": do_alloca, "at": do_at,
    "load": do_load, "store": do_store, "print": do_print, "input": do_input, "call": do_call,
}
END_ACTIONS = {"jump": do_jump, "branch": do_branch, "return": do_return, "stop": do_stop}


def take_step(engine):
    """Makes the step of a state that has not ended."""
    frame = engine.top
    block = frame.block
    if frame.place < len(block[2]):
        op = block[2][frame.place]
        action = OP_ACTIONS[op[1]]
        action(engine, op)
    else:
        action = END_ACTIONS[block[3][0]]
        action(engine, block[3])


def take_steps(engine, fuel):
    """Makes at most so many steps, and tells how many it made until the run ended."""
    made = 0
    while made < fuel and engine.end is None:
        take_step(engine)
        made += 1
    return made
