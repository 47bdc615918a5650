"""Modules that are clean and lean ([53])."""

from anypasses.cleaning import is_clean, pass_clean
from anypasses.judge import judged
from anypasses.needs import is_lean, pass_dead


def is_neat(module):
    """Whether a module is clean and lean."""
    return is_clean(module) and is_lean(module)


def pass_neat(module):
    """Some paper that leads a module to a neat one.

    Where all that is dead has gone, blocks may be empty; where blocks have gone, more may be dead."""
    paper = ()
    while not is_neat(module):
        more = pass_clean(module)
        module = judged(module, more)
        paper = paper + more
        more = pass_dead(module)
        module = judged(module, more)
        paper = paper + more
    return paper
