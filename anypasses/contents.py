"""Papers of what cells equal, and lots of labels from which on cells are unread ([40], [41])."""

from anypasses.cellfacts import CellFacts
from anypasses.editing import ways_by_label
from anypasses.forms import is_operand
from anypasses.kinds import are_ascending, is_number, is_pair
from anypasses.shapes import end_targets
from anypasses.webs import entry_of, reached_labels


def content_behind(function, place, content, op):
    """The content of a place behind an op, an operand or None, from the one ahead of it."""
    return CellFacts(function, place).behind(content, op)


def has_content_form(function, value):
    """Whether any value is an ascending tuple of pairs of unlike reached labels but the entry's, and operands."""
    if not isinstance(value, tuple) or not all([is_pair(pair) for pair in value]):
        return False
    if not all([is_number(label) and is_operand(operand) for label, operand in value]):
        return False
    known = {label: True for label in reached_labels(function) if label != entry_of(function)}
    return are_ascending([label for label, _ in value]) and all([label in known for label, _ in value])


def is_told_content(params, args, width, operand, content):
    """Whether the told operand of a block with these params is the content of a way that hands on these args."""
    for (value, kind), arg in zip(params, args):
        if operand == ("v", value):
            return kind == width and content == arg
    return content == operand


def told_contents_hold(facts, ways, ends, told):
    """Whether each way into a told block brings what is told; `ends` has the content ahead of each reached end."""
    for label in told:
        params = facts.blocks[label][1]
        if facts.is_root_made_by(params):
            return False
        for source, at in ways[label]:
            if source not in ends:
                continue
            args = end_targets(facts.blocks[source][3])[at][1]
            content = ends[source]
            if content is None or not is_told_content(params, args, facts.cell[2], told[label], content):
                return False
    return True


def contents_hold(function, place, paper):
    """Whether any value is a contents paper that holds."""
    if not has_content_form(function, paper):
        return False
    facts = CellFacts(function, place)
    told = dict(paper)
    ends = {label: facts.ahead_of_end(label, told.get(label)) for label in reached_labels(function)}
    return told_contents_hold(facts, ways_by_label(function), ends, told)


def content_ahead(function, place, paper, label, index):
    """The content of a place ahead of an index of a block, an operand or None, by a contents paper."""
    return CellFacts(function, place).ahead(label, dict(paper).get(label), index)


def unread_holds(function, place, labels):
    """Whether any value is an ascending tuple of labels from which on a place is unread by them."""
    if not isinstance(labels, tuple) or not all([is_number(label) for label in labels]) or not are_ascending(labels):
        return False
    facts = CellFacts(function, place)
    if not all([label in facts.blocks for label in labels]):
        return False
    return all([facts.is_unread(labels, label, 0) for label in labels])


def is_unread(function, place, labels, label, index):
    """Whether a place is unread from an index of a block on, by some labels."""
    return CellFacts(function, place).is_unread(labels, label, index)
