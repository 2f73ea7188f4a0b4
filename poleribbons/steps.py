"""Steps: from each ribbon to those that it lies above, as a dict from all ribbons to lists."""

from poleribbons.ribbons import crossings


def steps_in(laid):
    """The steps that crossings tell; ribbons and lists are ascending."""
    steps = {}
    for i, j in laid:
        if i == 0:
            steps[("moon", j)] = []
    for i, j in laid:
        if j == 0:
            steps[("sun", i)] = []
    for (i, j), text in laid.items():
        if "1" in text:
            steps[("sun", i)].append(("moon", j))
        if "0" in text:
            steps[("moon", j)].append(("sun", i))
    return steps


def steps_of(dance):
    """The steps of a Dance."""
    return steps_in(crossings(dance))


def turned_steps(steps):
    """The steps the other way round: from each ribbon to those that lie above it."""
    turned = {}
    for ribbon in steps:
        turned[ribbon] = []
    for ribbon, nexts in steps.items():
        for other in nexts:
            turned[other].append(ribbon)
    return turned


def reached(steps, start):
    """The dict of True for the ribbons to which one or more steps lead from start."""
    found = {}
    waiting = list(steps[start])
    while waiting:
        at = waiting.pop()
        if at not in found:
            found[at] = True
            waiting.extend(list(steps[at]))
    return found


def is_whole(steps):
    """Whether steps lead from each ribbon to each other one."""
    start = list(steps)[0]
    # One ribbon that reaches all, and is reached by all, leads from each to each.
    return len(reached(steps, start)) == len(steps) and len(reached(turned_steps(steps), start)) == len(steps)


def reached_from_each(steps):
    """The dict from each ribbon to those to which one or more steps lead from it."""
    return {ribbon: reached(steps, ribbon) for ribbon in steps}


def layer_in(reaches, ribbon):
    """The ascending list of the ribbons of a ribbon's layer; reaches are as `reached_from_each` tells them."""
    return [other for other in reaches
            if other == ribbon or other in reaches[ribbon] and ribbon in reaches[other]]


def layers_in(reaches):
    """All layers, that with the least ribbon first."""
    layers = [layer_in(reaches, ribbon) for ribbon in reaches]
    return [layer for layer, ribbon in zip(layers, reaches) if layer[0] == ribbon]


def is_on_top(reaches, layer, layers):
    """Whether no ribbon of another one of the layers leads to this layer."""
    return not any([layer[0] in reaches[other[0]] for other in layers if other != layer])


def distances(steps, target):
    """The dict from the ribbons from which steps lead to target to how many at the least."""
    backwards = turned_steps(steps)
    far = {target: 0}
    edge = [target]
    while edge:
        further = []
        for at in list(edge):
            for before in backwards[at]:
                if before not in far:
                    far[before] = far[at] + 1
                    further.append(before)
        edge = further
    return far


def way_down(steps, far, start):
    """The least of the shortest ways from start to the ribbon whose distance is 0."""
    way = [start]
    while far[way[-1]] > 0:
        at = way[-1]
        way.append(min([other for other in steps[at] if other in far and far[other] < far[at]]))
    return way
