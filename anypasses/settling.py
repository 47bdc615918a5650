"""Facts that flow from point to point until they stand ([26])."""

from anypasses.errors import Refused


def is_within(join, fact, other):
    """Whether a fact is within another one, or None."""
    return other is not None and join(other, fact) == other


def go_round(targets, facts, step, join):
    """Goes once through all points, changes the facts, and tells whether any of them changed."""
    changed = False
    for point, heads in enumerate(targets):
        if facts[point] is None:
            continue
        told = step(point, facts[point])
        for head, handed in zip(heads, told):
            if handed is None:
                continue
            old = facts[head]
            facts[head] = handed if old is None else join(old, handed)
            if old is None or not facts[head] == old:
                changed = True
    return changed


def settle(targets, starts, step, join, rounds):
    """The facts behind the first round in which none of them changed."""
    facts = list(starts)
    for _ in range(rounds):
        if not go_round(targets, facts, step, join):
            return tuple(facts)
    raise Refused(rounds)


def unsettled(targets, starts, step, join, facts):
    """None if these facts stand, otherwise the first place where they do not."""
    for point, heads in enumerate(targets):
        if starts[point] is not None and not is_within(join, starts[point], facts[point]):
            return (point, 0)
        if facts[point] is None:
            continue
        for at, handed in enumerate(step(point, facts[point])):
            if handed is not None and not is_within(join, handed, facts[heads[at]]):
                return (point, 1 + at)
    return None
