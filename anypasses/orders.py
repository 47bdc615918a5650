"""An order of blocks in which what is used comes behind what makes it."""

from anypasses.webs import entry_of, web_of


def defining_order(function):
    """The reached labels, each behind all others that dominate it: the later a label is left for good, the earlier."""
    web = web_of(function)
    entry = entry_of(function)
    found = {entry: True}
    row = [(entry, 0)]
    left = []
    while len(row) > 0:
        label, at = row.pop()
        if at == len(web[label]):
            left.append(label)
            continue
        row.append((label, at + 1))
        head = web[label][at]
        if head not in found:
            found[head] = True
            row.append((head, 0))
    return left[::-1]
