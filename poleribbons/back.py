"""Back: what is left of a dance that is danced back by another rule, its last meeting first."""

from poleribbons.classes import class_crossings, classes, last_of_class
from poleribbons.dances import Dance
from poleribbons.errors import NoMeeting
from poleribbons.heaps import heap_of


def _unlike(dance, rule):
    """The Dance whose truths tell where another rule lays a Dance otherwise."""
    return Dance(dance.suns, dance.moons, dance.rounds, dance.rule ^ rule)


def reasons(dance, rule):
    """The dict from the meetings that are left to the least one, it or behind it, at which the rules are unlike."""
    unlike = _unlike(dance, rule)
    found = {}
    for meeting in reversed(dance.meetings()):
        causes = [found[following] for following in dance.behind(meeting) if following in found]
        if unlike.above(meeting):
            found[meeting] = meeting
        elif causes:
            found[meeting] = min(causes)
    return {meeting: found[meeting] for meeting in dance.meetings() if meeting in found}


def what_is_left(dance, rule):
    """The ascending list of the meetings that are left if a Dance is danced back by a Rule."""
    return list(reasons(dance, rule))


def danced_back(dance, rule):
    """The Heap of a Dance, and then of the same numbers by a Rule taken off."""
    return heap_of(dance) * ~heap_of(Dance(dance.suns, dance.moons, dance.rounds, rule))


def _is_or_is_ahead(dance, one, other):
    return one == other or dance.ahead(one, other)


def _is_reason(unlike, meeting, thing):
    """Whether thing, any value, is a meeting that is unlike and that a meeting is, or that it is ahead of."""
    return unlike.is_meeting(thing) and unlike.above(thing) and _is_or_is_ahead(unlike, meeting, thing)


def are_reasons(dance, rule, thing):
    """Whether thing, any value, is a dict from all meetings that are left to a reason of each."""
    if not isinstance(thing, dict) or not all([dance.is_meeting(key) for key in thing]):
        return False
    if sorted(thing) != what_is_left(dance, rule):
        return False
    unlike = _unlike(dance, rule)
    return all([_is_reason(unlike, meeting, reason) for meeting, reason in thing.items()])


def _last_causes(unlike, suns, moons, rounds):
    """For each two classes of dancers that are ever unlike, the meeting of the last ones in the last such round."""
    last_rounds = [last_of_class(unlike, r, rounds) for r in classes(unlike, rounds)]
    causes = []
    for (k, l), text in class_crossings(unlike, suns, moons, rounds).items():
        found = [last for last, bit in zip(last_rounds, text) if bit == "1"]
        if found:
            causes.append((max(found), last_of_class(unlike, k, suns), last_of_class(unlike, l, moons)))
    return causes


def _stretches(rule, many):
    """The tuples (last, how many) of the numbers below many, parted behind the last one of each class."""
    lasts = sorted([last_of_class(rule, kind, many) for kind in classes(rule, many)])
    return [(last, last - before) for before, last in zip([-1] + lasts, lasts)]


def _rounds_left(causes, i, j):
    """In how many rounds the meeting of two dancers is left."""
    return max([0] + [r + 1 - [k < i, l < j].count(True) for r, k, l in causes])


def left_many(one, other, suns, moons, rounds):
    """How many meetings are left if a dance by one Rule is danced back by another one."""
    unlike = one ^ other
    causes = _last_causes(unlike, suns, moons, rounds)
    total = 0
    # Within a stretch all dancers have the same last causes at, or behind, their own number.
    for i, many_suns in _stretches(unlike, suns):
        for j, many_moons in _stretches(unlike, moons):
            total = total + many_suns * many_moons * _rounds_left(causes, i, j)
    return total


def is_left(one, other, suns, moons, rounds, meeting):
    """Whether a meeting, any value, is left if a dance by one Rule is danced back by another one."""
    unlike = Dance(suns, moons, rounds, one ^ other)
    if not unlike.is_meeting(meeting):
        raise NoMeeting(meeting)
    causes = _last_causes(unlike.rule, suns, moons, rounds)
    # Whatever is behind a meeting, the last meeting of the same classes is behind it, too, or is it.
    return any([_is_or_is_ahead(unlike, meeting, cause) for cause in causes])
