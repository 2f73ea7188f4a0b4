"""Steps: from each ribbon to those that it lies above, as a dict from all ribbons to lists."""

from poleribbons.ribbons import crossings, ribbons


def steps_of(dance):
    """The steps of a Dance; ribbons and lists are ascending."""
    steps = {ribbon: [] for ribbon in ribbons(dance)}
    for (i, j), text in crossings(dance).items():
        if "1" in text:
            steps[("sun", i)].append(("moon", j))
        if "0" in text:
            steps[("moon", j)].append(("sun", i))
    return steps


def turned_steps(steps):
    """The steps the other way round: from each ribbon to those that lie above it."""
    turned = {ribbon: [] for ribbon in steps}
    for ribbon, nexts in steps.items():
        for other in nexts:
            turned[other].append(ribbon)
    return turned


def reached(steps, start):
    """The dict of True for the ribbons to which one or more steps lead from start."""
    found = {}
    waiting = list(steps[start])
    while waiting:
        at = waiting.pop()
        if at not in found:
            found[at] = True
            waiting.extend(list(steps[at]))
    return found


def is_whole(steps):
    """Whether steps lead from each ribbon to each other one."""
    start = list(steps)[0]
    # One ribbon that reaches all, and is reached by all, leads from each to each.
    return len(reached(steps, start)) == len(steps) and len(reached(turned_steps(steps), start)) == len(steps)


def distances(steps, target):
    """The dict from the ribbons from which steps lead to target to how many at the least."""
    backwards = turned_steps(steps)
    far = {target: 0}
    edge = [target]
    while edge:
        further = []
        for at in edge:
            for before in backwards[at]:
                if before not in far:
                    far[before] = far[at] + 1
                    further.append(before)
        edge = further
    return far


def way_down(steps, far, start):
    """The least of the shortest ways from start to the ribbon whose distance is 0."""
    way = [start]
    while far[way[-1]] > 0:
        at = way[-1]
        way.append(min([other for other in steps[at] if other in far and far[other] < far[at]]))
    return way
