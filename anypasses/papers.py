"""Papers: rows of steps ([47])."""

from anypasses.call_steps import CALL_WORDS
from anypasses.errors import InvalidQuestion
from anypasses.flow_steps import FLOW_WORDS
from anypasses.memory_steps import MEMORY_WORDS
from anypasses.value_steps import VALUE_WORDS


def step_words():
    """The words of all steps."""
    return tuple(sorted(VALUE_WORDS + FLOW_WORDS + MEMORY_WORDS + CALL_WORDS))


def is_step(value):
    """Whether any value is a step: a tuple that begins with a word of one."""
    if not isinstance(value, tuple) or len(value) == 0 or not isinstance(value[0], str):
        return False
    return value[0] in step_words()


def is_paper(value):
    """Whether any value is a tuple of steps."""
    return isinstance(value, tuple) and all([is_step(step) for step in value])


def step_kind(step):
    """The kind of any value, a step."""
    if not is_step(step):
        raise InvalidQuestion(0)
    if step[0] in VALUE_WORDS:
        return "value"
    if step[0] in FLOW_WORDS:
        return "flow"
    return "memory" if step[0] in MEMORY_WORDS else "call"
