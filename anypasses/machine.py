"""The machine: states, their steps, and whole runs ([17] to [21])."""

from anypasses.actions import take_steps
from anypasses.engine import Engine
from anypasses.errors import InvalidQuestion
from anypasses.states import is_inputs


def start_state(module, inputs):
    """The state at the beginning of a run with any value, the inputs."""
    if not is_inputs(inputs):
        raise InvalidQuestion(1)
    objects = tuple([(width, cells) for _, width, _, cells in module[0]])
    entries = [function[3][0][0] for function in module[1] if function[0] == "main"]
    frame = ("main", entries[0], 0, (), len(objects))
    return (objects, (frame,), tuple(inputs), (), None)


def step_state(module, state):
    """The state behind one step."""
    return advance(module, state, 1)


def advance(module, state, fuel):
    """The state behind so many steps."""
    engine = Engine(module, state)
    take_steps(engine, fuel)
    return engine.state()


def run_of(state):
    """The run of a state: its outputs and its end."""
    return (state[3], state[4])


def depth_of(state):
    """How many frames a state has."""
    return len(state[1])


def run_module(module, inputs, fuel):
    """The run of a module cut behind so many steps."""
    engine = Engine(module, start_state(module, inputs))
    take_steps(engine, fuel)
    return engine.run()


def whole_run(module, inputs, most):
    """The run of a module and the fuel that it took, if it ends with at most so much; otherwise None."""
    engine = Engine(module, start_state(module, inputs))
    made = take_steps(engine, most)
    return None if engine.end is None else (engine.run(), made)


def deeds_of(module, inputs, fuel):
    """What the run of a module does to the world in so many steps."""
    engine = Engine(module, start_state(module, inputs))
    take_steps(engine, fuel)
    deeds = engine.deeds if engine.end is None else engine.deeds + [("end", engine.end)]
    return tuple(deeds)
