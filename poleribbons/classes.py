"""Classes: of numbers of any length a rule tells no more than few kinds apart, for each of which one number stands."""

from poleribbons.grids import grid
from poleribbons.words import place_of


def class_of(rule, number):
    """The class of a number from 0 on: the least number that the rule does not tell from it."""
    return place_of(rule.lead, rule.period, number)


def classes(rule, many):
    """The ascending list of the classes of the numbers below many."""
    return list(range(min(many, rule.lead + rule.period)))


def last_of_class(rule, kind, many):
    """The greatest number below many of a class that these numbers have."""
    if kind < rule.lead:
        return kind
    return many - 1 - (many - 1 - kind) % rule.period


def members(rule, many):
    """The list of how many of the numbers below many each of their classes has."""
    return [(last_of_class(rule, kind, many) - kind) // rule.period + 1 for kind in classes(rule, many)]


def _fellow_number(rule, many):
    """The least number of dancers with which the rule makes the same: as many classes of them, and of its class."""
    if many < rule.lead + 2 * rule.period:
        return many
    return class_of(rule, many) + rule.period


def fellow(rule, suns, moons, rounds):
    """The three numbers of promise 6 that make the same as these ones."""
    return (_fellow_number(rule, suns), _fellow_number(rule, moons), min(rounds, rule.lead + rule.period))


def numbers_from(rule, least):
    """The numbers from least on, so many that all further ones have fellows among them that are less."""
    return list(range(least, max(least, rule.lead + rule.period) + rule.period))


def class_crossings(rule, suns, moons, rounds):
    """The dict from the tuples of all classes of dancers to the string of their meetings, one bit a class of rounds."""
    rows = len(classes(rule, suns))
    columns = len(classes(rule, moons))
    grids = [grid(rule, r, suns, moons, rows, columns) for r in classes(rule, rounds)]
    return {(k, l): "".join([bits[k * columns + l] for bits in grids]) for k in range(rows) for l in range(columns)}


def table(rule, suns, moons, rounds):
    """The dict from the tuples of all classes of dancers to whether the sun's ribbon lies above, and below."""
    laid = class_crossings(rule, suns, moons, rounds)
    return {pair: ("1" in text, "0" in text) for pair, text in laid.items()}


def rule_at(rule, r, i, j, suns, moons):
    """What the rule tells at a meeting, found by classes."""
    return rule(class_of(rule, r), class_of(rule, i), class_of(rule, j), class_of(rule, suns), class_of(rule, moons))
