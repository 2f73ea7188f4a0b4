"""Slips: one meeting at which the other ribbon was laid above by mistake, and what has to be undone for it."""

from poleribbons.dances import names_meeting
from poleribbons.errors import NoMeeting, NoSlip
from poleribbons.ribbons import are_crossings, crossings, numbers_of
from poleribbons.steps import is_whole, steps_in


def _turned_at(laid, meeting):
    """Crossings with what lies above at one meeting turned about."""
    r, i, j = meeting
    text = laid[(i, j)]
    turned = {pair: laid[pair] for pair in laid}
    turned[(i, j)] = text[:r] + ("0" if text[r] == "1" else "1") + text[r + 1:]
    return turned


def slipped(dance, meeting):
    """The crossings of a Dance at whose meeting, any value, the other ribbon was laid above."""
    if not dance.is_meeting(meeting):
        raise NoMeeting(meeting)
    return _turned_at(crossings(dance), meeting)


def _are_crossings_of(dance, thing):
    """Whether thing, any value, is the crossings of some dance of the same numbers."""
    return are_crossings(thing) and numbers_of(thing) == (dance.suns, dance.moons, dance.rounds)


def slip_of(dance, thing):
    """The meeting at which crossings, any value, were laid wrong."""
    if not _are_crossings_of(dance, thing):
        raise NoSlip(thing)
    laid = crossings(dance)
    wrong = [(r, i, j) for r, i, j in dance.meetings() if thing[(i, j)][r] != laid[(i, j)][r]]
    if len(wrong) != 1:
        raise NoSlip(thing)
    return wrong[0]


def to_undo(dance, meetings):
    """The ascending list of the meetings that have to be undone if some, any value, are to be laid anew."""
    if not isinstance(meetings, (list, tuple)):
        raise NoMeeting(meetings)
    undone = {}
    for meeting in meetings:
        if not dance.is_meeting(meeting):
            raise NoMeeting(meeting)
        undone[meeting] = True
    # What is behind a meeting is greater than it, so it is still to come.
    for meeting in dance.meetings():
        if meeting in undone:
            for following in dance.behind(meeting):
                undone[following] = True
    return sorted(undone)


def undo_many(suns, moons, rounds, meeting):
    """How many meetings have to be undone if one, any value, is to be laid anew."""
    if not names_meeting(suns, moons, rounds, meeting):
        raise NoMeeting(meeting)
    r, i, j = meeting
    left = rounds - r
    total = (suns - i) * (moons - j) * left
    # Dancers of a lesser number are met a round later, on both sides two rounds later.
    total = total + (i * (moons - j) + (suns - i) * j) * (left - 1)
    return total + i * j * max(0, left - 2)


def harm(dance):
    """The ascending list of the meetings each of which, slipped alone, changes whether the cloth hangs together."""
    laid = crossings(dance)
    whole = is_whole(steps_in(laid))
    return [meeting for meeting in dance.meetings() if is_whole(steps_in(_turned_at(laid, meeting))) != whole]
