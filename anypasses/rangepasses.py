"""Numbers that ranges and sides tell, put in the place of values ([57])."""

from anypasses.dominating import Dominators
from anypasses.editing import used_in, with_blocks
from anypasses.knowing import known_numbers
from anypasses.numbersteps import first_step, rounds_made
from anypasses.rangepapers import known_ranges
from anypasses.sides import known_sides
from anypasses.swapping import swapped_block


def labels_behind(known, label):
    """The reached labels that a label dominates, as keys of a dict."""
    return {other: True for other in known.labels if known.is_above(label, other)}


def with_number_in(function, labels, value, number):
    """The function with a number in the place of a value in the blocks with these labels."""
    blocks = []
    for block in function[3]:
        blocks.append(swapped_block(block, {value: ("n", number)}) if block[0] in labels else block)
    return with_blocks(function, blocks)


def use_sides(maker):
    """Puts in what sides tell, where something is left that uses it; all blocks are reached.

    A step may change what a later side tells, or whether it is one: so each is asked for again."""
    known = Dominators(maker.function)
    triples = known_sides(maker.function)
    for triple in triples:
        label, value, number = triple
        behind = labels_behind(known, label)
        used = any([value in used_in(block) for block in maker.function[3] if block[0] in behind])
        if used and triple in known_sides(maker.function):
            later = with_number_in(maker.function, behind, value, number)
            maker.make(("use_in", maker.name, label, value, ("n", number)), later)


def range_round(maker):
    """Makes what steps are loose, of each kind, on the function of the maker."""
    maker.drop()
    maker.fold()
    use_sides(maker)
    maker.use_told(known_ranges(maker.function))
    maker.use_told(known_numbers(maker.function))
    maker.pick()


def loose_range(module):
    """Some loose step, or None."""
    return first_step(module, range_round)


def pass_ranges(module):
    """Some paper of loose steps behind which none is loose."""
    return tuple([step for function in module[1] for step in rounds_made(function, range_round)])
