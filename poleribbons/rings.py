"""Rings: ways along ribbons, each above the next one, that show that a cloth hangs together."""

from poleribbons.errors import NoRing
from poleribbons.ribbons import crossings, is_ribbon, need_ribbon
from poleribbons.steps import distances, is_whole, steps_of, way_down


def is_way(dance, thing):
    """Whether thing, any value, is a list of ribbons, at least one, each above the next one."""
    if not isinstance(thing, list) or len(thing) == 0 or not all([is_ribbon(dance, one) for one in thing]):
        return False
    steps = steps_of(dance)
    return all([other in steps[one] for one, other in zip(thing, thing[1:])])


def is_ring(dance, thing):
    """Whether thing, any value, is a way through all ribbons whose last one lies above its first."""
    if not isinstance(thing, list) or not is_way(dance, thing + thing[:1]):
        return False
    return len(set(thing)) == dance.suns + dance.moons


def ring_of(dance):
    """A ring of a Dance, None if there is none."""
    steps = steps_of(dance)
    if not is_whole(steps):
        return None
    first = list(steps)[0]
    ring = [first]
    for ribbon in steps:
        if ribbon not in ring:
            way = way_down(steps, distances(steps, ribbon), ring[-1])
            ring.extend(way[1:])
    back = way_down(steps, distances(steps, first), ring[-1])
    return ring + back[1:-1]


def way_between(dance, one, other):
    """The least of the shortest ways from one ribbon to another one, None if there is none."""
    need_ribbon(dance, one)
    need_ribbon(dance, other)
    steps = steps_of(dance)
    far = distances(steps, other)
    return way_down(steps, far, one) if one in far else None


def loop_of(dance, ribbon):
    """The least of the shortest ways from a ribbon to one that lies above it, None if there is none."""
    need_ribbon(dance, ribbon)
    steps = steps_of(dance)
    far = distances(steps, ribbon)
    nexts = [other for other in steps[ribbon] if other in far]
    if not nexts:
        return None
    least = min([(far[other], other) for other in nexts])
    return [ribbon] + way_down(steps, far, least[1])[:-1]


def knots(dance):
    """The ascending list of the tuples (i, j) of dancers of whose ribbons each lies above the other."""
    return [pair for pair, text in crossings(dance).items() if "0" in text and "1" in text]


def _link(laid, one, other):
    """The least meeting at which one ribbon lies above another one."""
    if one[0] == "sun":
        i, j = one[1], other[1]
        return (laid[(i, j)].find("1"), i, j)
    i, j = other[1], one[1]
    return (laid[(i, j)].find("0"), i, j)


def links_of(dance, ring):
    """The list of the least meetings at which each member of a ring lies above the one behind it."""
    if not is_ring(dance, ring):
        raise NoRing(ring)
    laid = crossings(dance)
    return [_link(laid, one, other) for one, other in zip(ring, ring[1:] + ring[:1])]
