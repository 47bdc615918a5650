"""Orders of the blocks and the ops of a function."""

from anypasses.webs import entry_of, web_of


def all_ops(function):
    """The ops of a function, block by block as these stand."""
    return [op for block in function[3] for op in block[2]]


def defining_order(function):
    """The reached labels, each behind all others that dominate it, and so behind the makers of all that it uses.

    A label is left for good when all to which it leads have been gone to; the one that is left last stands first."""
    web = web_of(function)
    entry = entry_of(function)
    found = {entry: True}
    row = [(entry, 0)]
    left = []
    while len(row) > 0:
        label, at = row.pop()
        if at == len(web[label]):
            left.append(label)
            continue
        row.append((label, at + 1))
        head = web[label][at]
        if head not in found:
            found[head] = True
            row.append((head, 0))
    return left[::-1]
