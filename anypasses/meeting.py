"""Where ways meet that come from some blocks and from others ([24])."""

from anypasses.dominating import Dominators
from anypasses.errors import InvalidQuestion
from anypasses.kinds import is_sequence
from anypasses.webs import check_label, is_label


def frontier_in(known, label):
    """The frontier of a label, of whose function the dominators are known."""
    if label not in known.web:
        return ()
    found = []
    for head in known.labels:
        met = [source for source in known.sources[head] if known.is_above(label, source)]
        if len(met) > 0 and (head == label or not known.is_above(label, head)):
            found.append(head)
    return tuple(found)


def frontier(function, label):
    """The reached labels at which what a label dominates ends."""
    check_label(function, label, 0)
    return frontier_in(Dominators(function), label)


def meeting_labels(function, labels):
    """The least lot of labels that has the frontiers of these labels, any value, and its own."""
    if not is_sequence(labels):
        raise InvalidQuestion(0)
    for at, label in enumerate(labels):
        if not is_label(function, label):
            raise InvalidQuestion(at)
    known = Dominators(function)
    found = {}
    waiting = list(labels)
    while len(waiting) > 0:
        last = waiting.pop()
        for head in frontier_in(known, last):
            if head not in found:
                found[head] = True
                waiting.append(head)
    return tuple(sorted(found))
