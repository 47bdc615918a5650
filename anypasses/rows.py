"""Passes by their names, and rows of them ([74], [75], [78], [80])."""

from anypasses.admission import admitted
from anypasses.callpasses import pass_inline, pass_merge, pass_signatures, pass_tails, pass_unused
from anypasses.cleaning import pass_clean
from anypasses.combining import pass_combine
from anypasses.constants import pass_constants
from anypasses.errors import InvalidQuestion
from anypasses.hoisting import pass_hoist
from anypasses.judge import judged
from anypasses.kinds import is_sequence
from anypasses.landing import pass_landings
from anypasses.needs import pass_dead
from anypasses.neatness import pass_neat
from anypasses.promotion import pass_promote
from anypasses.rangepasses import pass_ranges
from anypasses.reading import read_module
from anypasses.remembering import pass_memory
from anypasses.sharing import pass_tidy, pass_values
from anypasses.turning import pass_turn
from anypasses.writing import module_text

PASSES = (
    "clean", "combine", "constants", "dead", "hoist", "inline", "landings", "memory", "merge", "neat", "promote",
    "ranges", "signatures", "tails", "tidy", "turn", "unused", "values",
)


def is_pass(value):
    """Whether any value is the name of a pass."""
    return isinstance(value, str) and value in PASSES


def check_names(names):
    """Refuses any value that is no sequence of names of passes."""
    if not is_sequence(names) or not all([is_pass(name) for name in names]):
        raise InvalidQuestion(1)


def pass_paper(module, name):
    """The paper that the pass with any value, a name, tells."""
    if not is_pass(name):
        raise InvalidQuestion(1)
    told = {
        "clean": pass_clean, "combine": pass_combine, "constants": pass_constants, "dead": pass_dead,
        "hoist": pass_hoist, "inline": pass_inline, "landings": pass_landings, "memory": pass_memory,
        "merge": pass_merge, "neat": pass_neat, "promote": pass_promote, "ranges": pass_ranges,
        "signatures": pass_signatures, "tails": pass_tails, "tidy": pass_tidy, "turn": pass_turn,
        "unused": pass_unused, "values": pass_values,
    }
    action = told[name]
    return action(module)


def optimised(module, names):
    """The pair of the module behind passes, done one after another, and the paper of all their steps."""
    check_names(names)
    paper = ()
    for name in names:
        more = pass_paper(module, name)
        module = judged(module, more)
        paper = paper + more
    return (module, paper)


def still(module, names):
    """Whether the papers of all these passes have no steps."""
    check_names(names)
    return all([len(pass_paper(module, name)) == 0 for name in names])


def rounds_told(module, names, most):
    """The triple (module, paper, rounds) when a row of passes has no more steps, or was done so many times."""
    check_names(names)
    paper = ()
    rounds = 0
    more = None
    while rounds < most and more != ():
        module, more = optimised(module, names)
        paper = paper + more
        rounds += 1
    return (module, paper, rounds)


def size_of(module):
    """How many ops and ends a module has."""
    return sum([len(block[2]) + 1 for function in module[1] for block in function[3]])


def growth(module, names):
    """The size of a module, and that behind each pass of a row."""
    check_names(names)
    sizes = [size_of(module)]
    for name in names:
        module = judged(module, pass_paper(module, name))
        sizes.append(size_of(module))
    return tuple(sizes)


def whole(text, names):
    """The text of the module of a text behind a row of passes."""
    module = admitted(read_module(text))
    return module_text(optimised(module, names)[0])
