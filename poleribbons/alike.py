"""Alike: whether two rules tell the same for all numbers of dancers and of rounds, and where they part."""

from poleribbons.classes import classes, numbers_from
from poleribbons.grids import grid
from poleribbons.kinds import READERS
from poleribbons.rules import Rule
from poleribbons.words import Word


def _least_meeting_told(rule, suns, moons):
    """The least meeting of so many dancers at which a rule tells True, None if there is none."""
    rows = len(classes(rule, suns))
    columns = len(classes(rule, moons))
    for r in range(rule.lead + rule.period):
        place = grid(rule, r, suns, moons, rows, columns).find("1")
        if place >= 0:
            i, j = divmod(place, columns)
            return (r, i, j)
    return None


def _least_told(rule):
    """The least tuple (suns, moons, meeting) at which a rule tells True, None if there is none."""
    for suns in numbers_from(rule, 1):
        for moons in numbers_from(rule, 1):
            meeting = _least_meeting_told(rule, suns, moons)
            if meeting is not None:
                return (suns, moons, meeting)
    return None


def parted_at(one, other):
    """The least tuple (suns, moons, meeting) at which two Rules do not tell the same, None if they are alike."""
    return _least_told(one ^ other)


def alike(one, other):
    """Whether two Rules tell the same at each meeting of each dance."""
    return parted_at(one, other) is None


def _where(row, colour):
    """The Word whose bits are 1 where a row that comes again and again has a colour."""
    return Word("", "".join(["1" if sign == colour else "0" for sign in row]))


def _of_one_colour(colours):
    """The Rule that tells whether both ribbons have one colour."""
    rule = Rule.always(False)
    for colour in sorted(set(list(colours.suns))):
        of_sun = Rule.by("suns", _where(colours.suns, colour))
        rule = rule | of_sun & Rule.by("moons", _where(colours.moons, colour))
    return rule


def parted_seen(one, other, colours):
    """The least tuple (suns, moons, meeting) at which two Rules do not show the same, None if there is none."""
    return _least_told((one ^ other) & ~_of_one_colour(colours))


def alike_seen(one, other, colours):
    """Whether two Rules show the same at each meeting of each dance."""
    return parted_seen(one, other, colours) is None


def _only_word(rule, reader):
    """The one Word that can be alike to a rule if this reader reads it."""
    many = rule.lead + rule.period
    # Of one dancer on the other side, turns or others are counted by rounds.
    meetings = {"suns": [(0, x, 0, many, 1) for x in range(many)], "moons": [(0, 0, x, 1, many) for x in range(many)]}
    told = [rule(*meeting) for meeting in meetings.get(reader, [(x, 0, 0, 1, 1) for x in range(many)])]
    bits = "".join(["1" if truth else "0" for truth in told])
    return Word(bits[:rule.lead], bits[rule.lead:]).plain()


def as_words(rule):
    """The dict from the readers by which one word alone is alike to a rule to this Word, told in the least way."""
    words = {reader: _only_word(rule, reader) for reader in sorted(READERS)}
    return {reader: word for reader, word in words.items() if alike(rule, Rule.by(reader, word))}


def told_always(rule):
    """The truth that a rule tells at each meeting, None if it tells both."""
    if _least_told(rule) is None:
        return False
    return True if _least_told(~rule) is None else None
