"""The judge: steps and papers made, or refused ([48] to [50])."""

from anypasses.call_steps import apply_call
from anypasses.errors import InvalidQuestion, InvalidStep
from anypasses.flow_steps import apply_flow
from anypasses.machine import run_module
from anypasses.memory_steps import apply_memory
from anypasses.papers import is_paper, is_step, step_kind
from anypasses.runs import agree_so_far
from anypasses.value_steps import apply_value


def apply_step(module, step):
    """The module behind any value, a step."""
    if not is_step(step):
        raise InvalidStep(0)
    kind = step_kind(step)
    if kind == "value":
        return apply_value(module, step)
    if kind == "flow":
        return apply_flow(module, step)
    if kind == "memory":
        return apply_memory(module, step)
    return apply_call(module, step)


def behind_or_none(module, step):
    """The module behind a step, None if the step does not fit."""
    try:
        return apply_step(module, step)
    except InvalidStep:
        return None


def check_paper(paper):
    """Refuses any value that is no paper."""
    if not is_paper(paper):
        raise InvalidQuestion(1)


def fitting_modules(module, paper):
    """The module, and those behind the steps of a paper, one after another, up to the first that does not fit."""
    row = [module]
    for step in paper:
        later = behind_or_none(row[-1], step)
        if later is None:
            return row
        row.append(later)
    return row


def judged(module, paper):
    """The module behind all steps of any value, a paper."""
    check_paper(paper)
    for at, step in enumerate(paper):
        module = behind_or_none(module, step)
        if module is None:
            raise InvalidStep(at)
    return module


def fitting_steps(module, paper):
    """How many steps of any value, a paper, fit until the first that does not."""
    check_paper(paper)
    return len(fitting_modules(module, paper)) - 1


def stages(module, paper):
    """The module itself, and those behind one step of any value, a paper, behind two steps, and so on."""
    check_paper(paper)
    row = fitting_modules(module, paper)
    if len(row) <= len(paper):
        raise InvalidStep(len(row) - 1)
    return tuple(row)


def is_leading(module, paper, other):
    """Whether all steps of a paper fit, and lead a module to another one."""
    row = fitting_modules(module, paper)
    return len(row) > len(paper) and row[-1] == other


def without_rounds(row, paper):
    """The steps of a paper but those between two equal stages of its row."""
    kept = []
    at = 0
    while at < len(paper):
        same = [k for k, stage in enumerate(row) if k > at and stage == row[at]]
        if len(same) > 0:
            at = same[-1]
        else:
            kept.append(paper[at])
            at += 1
    return tuple(kept)


def shortened(module, paper):
    """Some paper that leads to the same module, and none of the steps of which can be left out."""
    row = stages(module, paper)
    short = without_rounds(row, paper)
    at = 0
    while at < len(short):
        less = short[:at] + short[at + 1:]
        if is_leading(module, less, row[-1]):
            short = less
            # A step that was needed may not be so any more behind or ahead of one that is left out.
            at = 0
        else:
            at += 1
    return short


def leads(module, paper, other):
    """Whether any value is a paper all steps of which fit, and leads the module to this other one."""
    return is_paper(paper) and is_leading(module, paper, other)


def same_runs(module, other, inputs, fuel):
    """Whether the runs of two modules with these inputs and this fuel agree so far."""
    return agree_so_far(run_module(module, inputs, fuel), run_module(other, inputs, fuel))
