"""Sooner: with how many rounds a cloth hangs together, and how it grows until then."""

from poleribbons.forall import layers_at, least_rounds
from poleribbons.steps import is_whole, steps_in


def sooner(rule, suns, moons):
    """The least number of rounds with which the cloth hangs together, None if it does so with none."""
    return least_rounds(rule, suns, moons)


def growth(rule, suns, moons):
    """The list of how many layers the cloth has with 1, 2, .. rounds, as long as more rounds can make a difference."""
    return [layers_at(rule, suns, moons, rounds) for rounds in range(1, rule.lead + rule.period + 1)]


def whole_level(dance):
    """The least level with which, and all lesser ones, the cloth hangs together, None if it never does."""
    laid = {(i, j): "" for i in range(dance.suns) for j in range(dance.moons)}
    for level, meetings in enumerate(dance.levels()):
        for r, i, j in meetings:
            laid[(i, j)] = laid[(i, j)] + ("1" if dance.above((r, i, j)) else "0")
        if is_whole(steps_in(laid)):
            return level
    return None
