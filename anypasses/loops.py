"""Turns and loops ([25])."""

from anypasses.dominating import Dominators
from anypasses.errors import InvalidQuestion
from anypasses.ways import reached_from, web_without
from anypasses.webs import block_at, check_label, end_labels


def turns_in(known):
    """All turns of a function of which the dominators are known."""
    return [(label, head) for label in known.labels for head in known.labels
            if head in known.web[label] and known.is_above(head, label)]


def turns_of(function):
    """All turns: the pairs of a reached label and a target of it that dominates it."""
    return tuple(turns_in(Dominators(function)))


def loop_labels(known, head, lasts):
    """The labels of the loop of a head, `lasts` being the first labels of its turns."""
    back = web_without(known.sources, head)
    found = {head: True}
    for last in lasts:
        if last not in found:
            for label in reached_from(back, last):
                found[label] = True
    return tuple(sorted(found))


def loops_of(function):
    """The pairs of each head and the labels of its loop."""
    known = Dominators(function)
    turns = turns_in(known)
    heads = sorted({head for _, head in turns})
    return tuple([(head, loop_labels(known, head, [last for last, other in turns if other == head])) for head in heads])


def loop_ends(function, head):
    """The pairs of a label in the loop of a head and a target of its block outside."""
    check_label(function, head, 0)
    loops = dict(loops_of(function))
    if head not in loops:
        raise InvalidQuestion(0)
    found = {}
    for label in loops[head]:
        for other in end_labels(block_at(function, label)[3]):
            if other not in loops[head]:
                found[(label, other)] = True
    return tuple(sorted(found))
