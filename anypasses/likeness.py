"""Functions that do the same, also where they call one another in rings ([45], [73])."""

from anypasses.calling import called_names
from anypasses.editing import with_ops
from anypasses.renumbering import renumbered_function


def body_of(function):
    """What a function is but for its name, the names of those it calls, and the numbers of its labels and values."""
    blank = with_ops(function, lambda op: (op[0], op[1], (), op[3]) if op[1] == "call" else op)
    return renumbered_function(blank)[1:]


def calls_in_order(function):
    """The names of the functions that a function calls, call by call."""
    return [op[2][0] for block in function[3] for op in block[2] if op[1] == "call"]


def numbers_of(keys):
    """For each name a number, the same where the keys of two names are equal."""
    numbers = {}
    for name in keys:
        numbers.setdefault(keys[name], len(numbers))
    return {name: numbers[keys[name]] for name in keys}


def like_numbers(module):
    """For each function a number that it shares with just those that do the same.

    At first all with equal bodies are taken for such; then ever fewer, as those that they call are told apart."""
    numbers = numbers_of({function[0]: body_of(function) for function in module[1]})
    rows = {function[0]: calls_in_order(function) for function in module[1]}
    count = 0
    while count < len(set(list(numbers.values()))):
        count = len(set(list(numbers.values())))
        keys = {name: (numbers[name], tuple([numbers[other] for other in rows[name]])) for name in rows}
        numbers = numbers_of(keys)
    return numbers


def doubled_pairs(module):
    """The pairs of a function that is called, and another one, also called, that does the same and may stand for it.

    What is not called needs no pair, as nobody calls it. `main` is no first one of a pair, so it stands for others."""
    numbers = like_numbers(module)
    called = {name: True for function in module[1] for name in called_names(function)}
    kept = {numbers["main"]: "main"} if "main" in called else {}
    pairs = []
    for name in sorted(called):
        other = kept.setdefault(numbers[name], name)
        if other != name:
            pairs.append((name, other))
    return tuple(pairs)
