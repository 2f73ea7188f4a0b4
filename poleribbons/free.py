"""Free: ribbons that no ribbon lies above, and how a cloth comes apart ribbon by ribbon."""

from poleribbons.classes import members
from poleribbons.forall import steps_at
from poleribbons.ribbons import is_ribbon
from poleribbons.steps import steps_of, turned_steps


def _free_in(steps):
    """The ascending list of the ribbons to which no step leads."""
    return [ribbon for ribbon, above in turned_steps(steps).items() if not above]


def free_ribbons(dance):
    """The ascending list of the ribbons of a Dance that no ribbon lies above."""
    return _free_in(steps_of(dance))


def _steps_among(steps, left):
    """The steps between the ribbons that are left."""
    return {ribbon: [other for other in steps[ribbon] if other in left] for ribbon in left}


def lifting(dance):
    """The list of the free ribbons, those that are free as soon as these are lifted off, and so on."""
    steps = steps_of(dance)
    lifted = []
    free = _free_in(steps)
    while free:
        lifted.append(free)
        steps = _steps_among(steps, [ribbon for ribbon in steps if ribbon not in free])
        free = _free_in(steps)
    return lifted


def is_lifting(dance, thing):
    """Whether thing, any value, is a list of ribbons of a Dance that can be lifted off one behind another."""
    if not isinstance(thing, list) or not all([is_ribbon(dance, one) for one in thing]):
        return False
    if len(set(thing)) < len(thing):
        return False
    above = turned_steps(steps_of(dance))
    return all([other in thing[:at] for at, one in enumerate(thing) for other in above[one]])


def _between_others(steps):
    """The ribbons that lie above one and below one."""
    above = turned_steps(steps)
    return [ribbon for ribbon in steps if steps[ribbon] and above[ribbon]]


def kernel_of(dance):
    """The ascending list of the ribbons left if all that lie above none left, or below none left, are taken away."""
    steps = steps_of(dance)
    kept = _between_others(steps)
    while len(kept) < len(steps):
        steps = _steps_among(steps, kept)
        kept = _between_others(steps)
    return kept


def free_at(rule, suns, moons, rounds):
    """The ascending list of the classes of whose ribbons no other one lies above one."""
    return _free_in(steps_at(rule, suns, moons, rounds))


def many_free_at(rule, suns, moons, rounds):
    """How many ribbons no other one lies above."""
    many = {"sun": members(rule, suns), "moon": members(rule, moons)}
    return sum([many[side][kind] for side, kind in free_at(rule, suns, moons, rounds)])
