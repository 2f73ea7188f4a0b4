"""Layers: whether a cloth hangs together, and what can be lifted off if it does not."""

from poleribbons.ribbons import is_ribbon, need_ribbon
from poleribbons.steps import is_on_top, is_whole, layer_in, layers_in, reached, reached_from_each, steps_of


def hangs(dance):
    """Whether the cloth of a Dance hangs together."""
    return is_whole(steps_of(dance))


def reached_from(dance, ribbon):
    """The ascending list of the ribbons to which one or more steps lead from a ribbon."""
    need_ribbon(dance, ribbon)
    return sorted(reached(steps_of(dance), ribbon))


def layer_of(dance, ribbon):
    """The ascending list of the ribbons of a ribbon's layer."""
    need_ribbon(dance, ribbon)
    return layer_in(reached_from_each(steps_of(dance)), ribbon)


def _sorted_layers(reaches):
    """All layers from above downwards; where several could come, that with the least ribbon."""
    left = layers_in(reaches)
    ordered = []
    while left:
        top = [layer for layer in left if is_on_top(reaches, layer, left)][0]
        ordered.append(top)
        left = [layer for layer in left if layer != top]
    return ordered


def layers_of(dance):
    """The list of all layers, each an ascending list, from above downwards."""
    return _sorted_layers(reached_from_each(steps_of(dance)))


def is_lot(dance, thing):
    """Whether thing, any value, is a list of ribbons of a Dance, each once, that can be lifted off."""
    if not isinstance(thing, list) or len(thing) == 0 or not all([is_ribbon(dance, one) for one in thing]):
        return False
    if len(set(thing)) < len(thing) or len(thing) == dance.suns + dance.moons:
        return False
    steps = steps_of(dance)
    return not any([one in thing for ribbon in steps if ribbon not in thing for one in steps[ribbon]])


def _closed_choices(reaches, layers):
    """All choices of layers, as lists of truths, that take with each layer those that lead to it."""
    choices = [[]]
    for layer in layers:
        grown = [without + [False] for without in choices]
        for choice in list(choices):
            # What leads to a layer stands ahead of it, so it is decided already.
            if all([taken or layer[0] not in reaches[other[0]] for taken, other in zip(choice, layers)]):
                grown.append(choice + [True])
        choices = grown
    return choices


def lots_of(dance):
    """The list of all lots as ascending lists, those with fewer ribbons first, then the least."""
    reaches = reached_from_each(steps_of(dance))
    layers = _sorted_layers(reaches)
    choices = [choice for choice in _closed_choices(reaches, layers) if any(choice) and not all(choice)]
    lots = [sorted([ribbon for taken, layer in zip(choice, layers) if taken for ribbon in layer])
            for choice in choices]
    return sorted(lots, key=lambda lot: (len(lot), lot))


def least_lot(dance):
    """The first one of all lots, None if there is none."""
    lots = lots_of(dance)
    return lots[0] if lots else None
