"""Dances that several tests go through, and what lies above in them, read off the rule itself."""

from itertools import product

from poleribbons.dances import Dance
from samples import ODD_VALUES, RULES

SIZES = [(1, 1, 1), (1, 1, 2), (1, 2, 1), (2, 1, 2), (2, 2, 1), (2, 3, 1), (3, 2, 2), (3, 3, 1), (2, 2, 3), (1, 4, 3)]

DANCES = [Dance(s, m, r, rule) for s, m, r in SIZES for rule in RULES]

BIG_DANCES = [Dance(8, 8, 12, rule) for rule in RULES]

# None of these is a ribbon of a dance of at most two sun dancers and three moon dancers.
NO_RIBBONS = ODD_VALUES + [
    ("sun", 2), ("moon", 3), ("sun", -1), ("moon", -1), ("sun", True), ("sun", False), ("moon", True), ("sun", "0"),
    ("sun", None), ("sun",), ("sun", 0, 0), ["sun", 0], "sun", "sun0", ("Sun", 0), ("suns", 0), ("moons", 0),
    (0, "sun"), (("sun", 0),), [("sun", 0)], {"sun": 0}, {("sun", 0): 0}, ("", 0), ("sun", (0,)), (["sun"], 0),
    ("sun", [0]), (b"sun", 0), (None, 0)]


def swapped(ribbon):
    """The ribbon of the same number on the other side."""
    return ({"sun": "moon", "moon": "sun"}[ribbon[0]], ribbon[1])


def all_ribbons(dance):
    """All ribbons of a dance, the moon's first."""
    return [("moon", j) for j in range(dance.moons)] + [("sun", i) for i in range(dance.suns)]


def arrows(dance):
    """The pairs of ribbons of which the first one lies above the other, read off the rule itself."""
    found = set()
    for r, i, j in product(range(dance.rounds), range(dance.suns), range(dance.moons)):
        if dance.rule(r, i, j, dance.suns, dance.moons):
            found.add((("sun", i), ("moon", j)))
        else:
            found.add((("moon", j), ("sun", i)))
    return found


def closure(dance):
    """The pairs of ribbons of which one or more steps lead from the first one to the other."""
    found = set(arrows(dance))
    names = all_ribbons(dance)
    for middle, one, other in product(names, repeat=3):
        if (one, middle) in found and (middle, other) in found:
            found.add((one, other))
    return found
