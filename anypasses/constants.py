"""Numbers put in the place of values, and branches on numbers taken away ([55])."""

from anypasses.knowing import known_numbers
from anypasses.numbersteps import first_step, rounds_made


def constant_round(maker):
    """Makes what steps are loose, of each kind, on the function of the maker."""
    maker.drop()
    maker.fold()
    maker.use_told(known_numbers(maker.function))
    maker.pick()


def loose_number(module):
    """Some loose step, or None."""
    return first_step(module, constant_round)


def pass_constants(module):
    """Some paper of loose steps behind which none is loose."""
    return tuple([step for function in module[1] for step in rounds_made(function, constant_round)])
