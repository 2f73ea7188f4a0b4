"""For all numbers of dancers and of rounds: whether a rule makes cloths that hang together, and what parts them."""

from poleribbons.classes import class_crossings, classes, members, numbers_from
from poleribbons.errors import Wrong
from poleribbons.ribbons import names_ribbon
from poleribbons.rules import Rule
from poleribbons.steps import is_on_top, is_whole, layers_in, reached_from_each, steps_in


def steps_at(rule, suns, moons, rounds):
    """The steps between the classes of ribbons; each ribbon of a class has the steps of its class."""
    return steps_in(class_crossings(rule, suns, moons, rounds))


def hangs_at(rule, suns, moons, rounds):
    """Whether the cloth hangs together."""
    # A way from a class back to itself leads from each of its ribbons to each.
    return is_whole(steps_at(rule, suns, moons, rounds))


def layers_at(rule, suns, moons, rounds):
    """How many layers the cloth has."""
    many = {"sun": members(rule, suns), "moon": members(rule, moons)}
    total = 0
    for layer in layers_in(reached_from_each(steps_at(rule, suns, moons, rounds))):
        side, kind = layer[0]
        # No step leads to the own side, so the ribbons of a class by itself are a layer each.
        total = total + (1 if len(layer) > 1 else many[side][kind])
    return total


def lot_at(rule, suns, moons, rounds):
    """The least of the shortest lists of classes whose ribbons are a lot, None if the cloth hangs together."""
    reaches = reached_from_each(steps_at(rule, suns, moons, rounds))
    layers = layers_in(reaches)
    if len(layers) == 1:
        return None
    return min([(len(layer), layer) for layer in layers if is_on_top(reaches, layer, layers)])[1]


def _are_classes(rule, suns, moons, thing):
    """Whether thing, any value, is a list of tuples of a side and a class of its dancers, each once."""
    if not isinstance(thing, list):
        return False
    many = {"sun": len(classes(rule, suns)), "moon": len(classes(rule, moons))}
    # A class is told as a ribbon is: by its side and a number.
    if not all([names_ribbon(one) and one[1] < many[one[0]] for one in thing]):
        return False
    return len(set(thing)) == len(thing)


def is_lot_at(rule, suns, moons, rounds, thing):
    """Whether thing, any value, is a list of classes, each once, whose ribbons are a lot."""
    if not _are_classes(rule, suns, moons, thing):
        return False
    steps = steps_at(rule, suns, moons, rounds)
    if len(thing) == 0 or len(thing) == len(steps):
        return False
    return not any([below in thing for kind in steps if kind not in thing for below in steps[kind]])


def least_rounds(rule, suns, moons):
    """The least number of rounds with which the cloth hangs together, None if it does so with none."""
    laid = class_crossings(rule, suns, moons, rule.lead + rule.period)
    for rounds in range(1, rule.lead + rule.period + 1):
        if is_whole(steps_in({pair: text[:rounds] for pair, text in laid.items()})):
            return rounds
    return None


def least_whole(rule, *, suns=1, moons=1, rounds=1):
    """The least tuple of numbers, none below these, with which the cloth hangs together, None if there is none."""
    for many_suns in numbers_from(rule, suns):
        for many_moons in numbers_from(rule, moons):
            least = least_rounds(rule, many_suns, many_moons)
            if least is not None:
                return (many_suns, many_moons, max(rounds, least))
    return None


def least_apart(rule, *, suns=1, moons=1, rounds=1):
    """The least tuple of numbers, none below these, with which the cloth does not hang together, or None."""
    for many_suns in numbers_from(rule, suns):
        for many_moons in numbers_from(rule, moons):
            # More rounds never part a cloth, so the fewest tell.
            if not hangs_at(rule, many_suns, many_moons, rounds):
                return (many_suns, many_moons, rounds)
    return None


def whole_from(rule):
    """The least number from which on, for all three numbers, the cloth hangs together, None if there is none."""
    for least in range(1, rule.lead + rule.period + 1):
        if least_apart(rule, suns=least, moons=least, rounds=least) is None:
            return least
    return None


class When:
    """For all numbers, whether the cloth of a rule hangs together."""

    def __init__(self, rule):
        if not isinstance(rule, Rule):
            raise Wrong(0)
        self._rule = rule

    @property
    def rule(self):
        """The Rule that was passed."""
        return self._rule

    def __call__(self, suns, moons, rounds):
        return hangs_at(self._rule, suns, moons, rounds)

    def __eq__(self, other):
        return isinstance(other, When) and self.parting(other) is None

    def cases(self):
        """The ascending list of the tuples of numbers that are their own fellow and hang together."""
        most = self._rule.lead + self._rule.period
        numbers = numbers_from(self._rule, 1)
        found = []
        for suns in numbers:
            for moons in numbers:
                least = least_rounds(self._rule, suns, moons)
                if least is not None:
                    found.extend([(suns, moons, rounds) for rounds in range(least, most + 1)])
        return found

    def parting(self, other):
        """The least tuple of numbers for which two Whens do not tell the same, None if there is none."""
        numbers = numbers_from(self._rule ^ other._rule, 1)
        for suns in numbers:
            for moons in numbers:
                one = least_rounds(self._rule, suns, moons)
                two = least_rounds(other._rule, suns, moons)
                if one != two:
                    return (suns, moons, min([least for least in (one, two) if least is not None]))
        return None
