"""Ways in a web of labels: a dict that has for each label the labels to which it leads."""


def reached_from(web, start):
    """The labels to which ways from this one lead, itself among them, as keys of a dict in the order they are found."""
    found = {start: True}
    waiting = [start]
    while len(waiting) > 0:
        last = waiting.pop()
        for label in web[last]:
            if label not in found:
                found[label] = True
                waiting.append(label)
    return found


def traced_back(sources, goal):
    """The way to the goal, if `sources` tells for each label the one before it, None for the first one."""
    way = []
    label = goal
    while label is not None:
        way.append(label)
        label = sources[label]
    return tuple(way[::-1])


def short_way(web, start, goal):
    """Some way from one label to another one, as short as any, or None."""
    sources = {start: None}
    row = [start]
    while len(row) > 0 and goal not in sources:
        later = []
        for label in row:
            for following in web[label]:
                if following not in sources:
                    sources[following] = label
                    later.append(following)
        row = later
    return traced_back(sources, goal) if goal in sources else None


def web_without(web, barred):
    """The web in which no way leads to a label."""
    return {label: [other for other in web[label] if other != barred] for label in web}


def turned_web(web):
    """The web with all its steps the other way round."""
    turned = {label: [] for label in web}
    for label in web:
        for other in web[label]:
            turned[other].append(label)
    return turned
