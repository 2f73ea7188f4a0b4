"""Ribbons: ("sun", i) and ("moon", j), and which of them lie above which."""

from poleribbons.errors import NoRibbon
from poleribbons.kinds import are_bits, is_count, is_side


def ribbons(dance):
    """The ascending list of all ribbons of a Dance."""
    return [("moon", j) for j in range(dance.moons)] + [("sun", i) for i in range(dance.suns)]


def names_ribbon(thing):
    """Whether thing, any value, is a ribbon of some dance."""
    return isinstance(thing, tuple) and len(thing) == 2 and is_side(thing[0]) and is_count(thing[1])


def is_ribbon(dance, thing):
    """Whether thing, any value, is a ribbon of a Dance."""
    if not names_ribbon(thing):
        return False
    return thing[1] < (dance.suns if thing[0] == "sun" else dance.moons)


def need_ribbon(dance, thing):
    """Raise NoRibbon for what is no ribbon of a Dance."""
    if not is_ribbon(dance, thing):
        raise NoRibbon(thing)


def meetings_of(dance, ribbon):
    """The list of the meetings of a ribbon's dancer, in their order."""
    need_ribbon(dance, ribbon)
    side, number = ribbon
    if side == "sun":
        return [(r, number, j) for r in range(dance.rounds) for j in range(dance.moons)]
    return [(r, i, number) for r in range(dance.rounds) for i in range(dance.suns)]


def _crossing(dance, i, j):
    """The string of the meetings of two dancers: "1" where the sun dancer's ribbon lies above."""
    return "".join(["1" if dance.above((r, i, j)) else "0" for r in range(dance.rounds)])


def _is_over(dance, one, other):
    if one[0] == other[0]:
        return False
    if one[0] == "sun":
        return "1" in _crossing(dance, one[1], other[1])
    return "0" in _crossing(dance, other[1], one[1])


def lies_above(dance, one, other):
    """Whether one ribbon lies above another one."""
    need_ribbon(dance, one)
    need_ribbon(dance, other)
    return _is_over(dance, one, other)


def over(dance, ribbon):
    """The ascending list of the ribbons that a ribbon lies above."""
    need_ribbon(dance, ribbon)
    return [other for other in ribbons(dance) if _is_over(dance, ribbon, other)]


def under(dance, ribbon):
    """The ascending list of the ribbons that lie above a ribbon."""
    need_ribbon(dance, ribbon)
    return [other for other in ribbons(dance) if _is_over(dance, other, ribbon)]


def crossings(dance):
    """The dict from all tuples (i, j) of dancers to the string of their meetings, round by round."""
    return {(i, j): _crossing(dance, i, j) for i in range(dance.suns) for j in range(dance.moons)}


def same_cloth(one, other):
    """Whether two Dances have the same numbers and the same crossings."""
    # The numbers of a dance can be read off its crossings: their keys, and how long their strings are.
    return crossings(one) == crossings(other)


def _is_pair(thing):
    return isinstance(thing, tuple) and len(thing) == 2 and is_count(thing[0]) and is_count(thing[1])


def numbers_of(laid):
    """The tuple of the numbers of sun dancers, moon dancers and rounds of crossings."""
    suns = max([i for i, _ in laid]) + 1
    moons = max([j for _, j in laid]) + 1
    return (suns, moons, len(list(laid.values())[0]))


def are_crossings(thing):
    """Whether thing, any value, is a dict that is the crossings of some dance."""
    if not isinstance(thing, dict) or len(thing) == 0 or not all([_is_pair(key) for key in thing]):
        return False
    texts = list(thing.values())
    if not all([are_bits(text) for text in texts]) or len(set([len(text) for text in texts])) > 1:
        return False
    suns, moons, rounds = numbers_of(thing)
    return len(thing) == suns * moons and rounds > 0
