"""Passes on calls ([70] to [73])."""

from anypasses.call_steps import apply_call
from anypasses.callbook import CallBook
from anypasses.callees import quiet_fuel
from anypasses.callgoals import doubled_call, small_call_in, small_functions
from anypasses.editing import blocks_by_label, free_label, function_named, ways_by_label, with_function
from anypasses.fewerblocks import joined
from anypasses.moreblocks import twinned
from anypasses.tails import Tails
from anypasses.unneeded import CallsOut, called_from_main, unused_functions, unused_globals


def inlined_calls(module, name, smalls):
    """The module in which a function has no small calls, and the steps that lead to it."""
    steps = []
    step = small_call_in(function_named(module, name), smalls)
    while step is not None:
        steps.append(step)
        module = apply_call(module, step)
        step = small_call_in(function_named(module, name), smalls)
    return module, steps


def pass_inline(module):
    """Some paper behind which no small call is left.

    A function without calls has none to be put in, so that the small ones stay as they are while others change."""
    paper = []
    count = -1
    while count < len(paper):
        count = len(paper)
        for function in module[1]:
            module, steps = inlined_calls(module, function[0], small_functions(module[1]))
            paper.extend(steps)
    return tuple(paper)


def early_tail_steps(function, label):
    """The steps that return at once what a block with a late tail call returns, and the function behind them."""
    goal = blocks_by_label(function)[label][3][1][0]
    steps = []
    if len(ways_by_label(function)[goal]) > 1:
        steps.append(("twin", function[0], goal, ((label, 0),)))
        copy = free_label(function)
        function = twinned(function, blocks_by_label(function)[goal], ((label, 0),))
        goal = copy
    steps.append(("join", function[0], goal))
    return joined(function, blocks_by_label(function)[goal]), steps


def tail_steps(function):
    """The steps behind which a function has no tail call, and no late one."""
    steps = []
    late = Tails(function).late_labels()
    while len(late) > 0:
        function, more = early_tail_steps(function, late[0])
        steps.extend(more)
        late = Tails(function).late_labels()
    if len(Tails(function).early_labels()) > 0:
        steps.append(("tail_loop", function[0]))
    return steps


def pass_tails(module):
    """Some paper behind which no tail call, and no late one, is left."""
    return tuple([step for function in module[1] for step in tail_steps(function)])


def pass_signatures(module):
    """Some paper behind which no step on params or results is of use."""
    book = CallBook(module)
    paper = []
    count = -1
    while count < len(paper):
        count = len(paper)
        for name in list(book.functions):
            step = book.loose_step(name)
            while step is not None:
                paper.append(step)
                book.make(step)
                step = book.loose_step(name)
    return tuple(paper)


def pass_merge(module):
    """The paper behind which no two functions that do the same are both called."""
    step = doubled_call(module)
    return () if step is None else (step,)


def pass_unused(module):
    """Some paper behind which nothing is left that nobody needs.

    Calls go first, as they may be the only ones of a function; those in functions that go with them may stay."""
    quiet = dict(quiet_fuel(module))
    paper = []
    for name in sorted(called_from_main(module)):
        calls = CallsOut(function_named(module, name), quiet)
        calls.go_over_all()
        paper.extend(calls.steps)
        module = with_function(module, calls.cleared())
    names = unused_functions(module)
    if len(names) > 0:
        paper.append(("functions_out", names))
        module = apply_call(module, paper[-1])
    names = unused_globals(module)
    if len(names) > 0:
        paper.append(("globals_out", names))
    return tuple(paper)
